package tests

import (
	"math/rand"
	"slices"
	"strings"

	"loop.example/s01858/impl"
)

// be is a number as so many bytes, the high byte first.
func be(n int64, size int) string {
	out := ""
	for range size {
		out = string([]byte{byte(n)}) + out
		n >>= 8
	}
	return out
}

// hd is a head with the ID 1 and no flag, and its four counts.
func hd(counts ...int64) string {
	out := "\x00\x01\x00\x00"
	for _, n := range counts {
		out += be(n, 2)
	}
	return out + strings.Repeat("\x00\x00", 4-len(counts))
}

// qu is a question's bytes; its name is laid as it is, so that it may have pointers.
func qu(name string, rtype, class int64) string { return name + be(rtype, 2) + be(class, 2) }

// rec is the bytes of a record of class 1 and TTL 3600; owner and data are laid as they are.
func rec(owner string, rtype int64, data string) string { return recOf(owner, rtype, len(data), data) }

// recOf is a record that tells another number of bytes than its data has.
func recOf(owner string, rtype int64, size int, data string) string {
	return owner + be(rtype, 2) + "\x00\x01" + "\x00\x00\x0e\x10" + be(int64(size), 2) + data
}

// ptr is a pointer to a place.
func ptr(offset int) string { return be(int64(0xc000+offset), 2) }

// pointTypes are the types in whose data names may have pointers.
func pointTypes() []int64 {
	return []int64{impl.TypeNS, impl.TypeCNAME, impl.TypePTR, impl.TypeMX, impl.TypeSOA}
}

// rrOf is a record of class 1 and TTL 3600.
func rrOf(owner string, rtype int64, data string) impl.RR {
	return impl.RR{Owner: owner, Type: rtype, Class: 1, TTL: 3600, Data: data}
}

// answers is a message with the ID 1 that has just these records, as its answer.
func answers(list ...impl.RR) impl.Message {
	return impl.Message{Head: impl.Head{ID: 1}, Answer: list}
}

// recordLists are the lists of records of a message, so that a test may go through them.
func recordLists(m *impl.Message) []*[]impl.RR {
	return []*[]impl.RR{&m.Answer, &m.Authority, &m.Extra}
}

func sameMessage(a, b impl.Message) bool {
	return a.Head == b.Head && slices.Equal(a.Questions, b.Questions) && slices.Equal(a.Answer, b.Answer) &&
		slices.Equal(a.Authority, b.Authority) && slices.Equal(a.Extra, b.Extra)
}

// isZero tells whether a message is what stands beside a code.
func isZero(m impl.Message) bool { return sameMessage(m, impl.Message{}) }

// nameAt says chapter 5 on names once more: the labels so far have some bytes, the present stretch began at from.
func nameAt(b string, at, from, labels int) (string, int, int64) {
	if at >= len(b) {
		return "", 0, impl.ErrShort
	}
	first := int(b[at])
	behind := at + 1 + first
	switch {
	case first == 0:
		return root, at + 1, impl.OK
	case first >= 64 && first <= 191:
		return "", 0, impl.ErrLabel
	case first >= 192 && at+1 == len(b):
		return "", 0, impl.ErrShort
	case first >= 192:
		offset := (first-192)*256 + int(b[at+1])
		if offset >= from {
			return "", 0, impl.ErrPointer
		}
		rest, _, code := nameAt(b, offset, offset, labels)
		return rest, at + 2, code
	case behind > len(b):
		return "", 0, impl.ErrShort
	case labels+behind-at+1 > 255:
		return "", 0, impl.ErrLong
	}
	rest, next, code := nameAt(b, behind, from, labels+behind-at)
	return b[at:behind] + rest, next, code
}

// dataAt says chapter 5 on data once more: the data from a place up to another, its names whole.
func dataAt(b string, rtype int64, at, end int) (string, int64) {
	if at == end {
		return "", impl.OK
	}
	out, names := "", 0
	switch rtype {
	case impl.TypeMX:
		if at+2 > end {
			return "", impl.ErrData
		}
		out, at, names = b[at:at+2], at+2, 1
	case impl.TypeSOA:
		names = 2
	case impl.TypeNS, impl.TypeCNAME, impl.TypePTR:
		names = 1
	}
	for range names {
		name, next, code := nameAt(b, at, at, 0)
		if code != impl.OK {
			return "", code
		}
		if next > end {
			return "", impl.ErrData
		}
		out, at = out+name, next
	}
	out += b[at:end]
	if impl.CheckData(rtype, out) != impl.OK {
		return "", impl.ErrData
	}
	return out, impl.OK
}

// beAt is the number of some bytes at a place.
func beAt(b string, at, size int) int64 {
	n := int64(0)
	for _, c := range []byte(b[at : at+size]) {
		n = n*256 + int64(c)
	}
	return n
}

// entryAt reads a question, or a record, as a record, and the place behind it.
func entryAt(b string, at int, question bool) (impl.RR, int, int64) {
	owner, at, code := nameAt(b, at, at, 0)
	if code != impl.OK {
		return impl.RR{}, 0, code
	}
	if question && at+4 > len(b) || !question && at+10 > len(b) {
		return impl.RR{}, 0, impl.ErrShort
	}
	rr := impl.RR{Owner: owner, Type: beAt(b, at, 2), Class: beAt(b, at+2, 2)}
	if question {
		return rr, at + 4, impl.OK
	}
	rr.TTL = beAt(b, at+4, 4)
	end := at + 10 + int(beAt(b, at+8, 2))
	if end > len(b) {
		return impl.RR{}, 0, impl.ErrShort
	}
	rr.Data, code = dataAt(b, rr.Type, at+10, end)
	return rr, end, code
}

// headAt says chapter 5 on the head once more, by the digits of its flags in base 2.
func headAt(b string) impl.Head {
	bits := ""
	for _, c := range []byte(b[2:4]) {
		for i := range 8 {
			bits += string("01"[c>>(7-i)&1])
		}
	}
	on := func(i int) bool { return bits[i] == '1' }
	four := func(s string) int64 {
		return int64(s[0]-'0')*8 + int64(s[1]-'0')*4 + int64(s[2]-'0')*2 + int64(s[3]-'0')
	}
	return impl.Head{
		ID: beAt(b, 0, 2), QR: on(0), Op: four(bits[1:5]), AA: on(5), TC: on(6), RD: on(7),
		RA: on(8), Z: on(9), AD: on(10), CD: on(11), Code: four(bits[12:]),
	}
}

// messageOf says chapter 5 on Decode once more.
func messageOf(b string) (impl.Message, int64) {
	if len(b) > 65535 {
		return impl.Message{}, impl.ErrSize
	}
	if len(b) < 12 {
		return impl.Message{}, impl.ErrShort
	}
	sum := int64(0)
	for i := range 4 {
		sum += beAt(b, 4+2*i, 2)
	}
	if sum > 400 {
		return impl.Message{}, impl.ErrCount
	}
	m := impl.Message{Head: headAt(b)}
	at := 12
	for i := range 4 {
		for range beAt(b, 4+2*i, 2) {
			rr, next, code := entryAt(b, at, i == 0)
			if code != impl.OK {
				return impl.Message{}, code
			}
			at = next
			if i == 0 {
				m.Questions = append(m.Questions, impl.Question{Name: rr.Owner, Type: rr.Type, Class: rr.Class})
				continue
			}
			list := recordLists(&m)[i-1]
			*list = append(*list, rr)
		}
	}
	if at < len(b) {
		return impl.Message{}, impl.ErrTrail
	}
	return m, impl.OK
}

// laid is a message's bytes as they are laid one behind the other, and where labels stand that pointers may lead to.
type laid struct {
	bytes  strings.Builder
	whole  bool
	places []int
	rests  []string
}

// name lays a name; it looks through all places from the first on.
func (l *laid) name(name string) {
	for name != root {
		for i, rest := range l.rests {
			if !l.whole && rest == name && l.places[i] <= 16383 {
				l.bytes.WriteString(ptr(l.places[i]))
				return
			}
		}
		l.places, l.rests = append(l.places, l.bytes.Len()), append(l.rests, name)
		l.bytes.WriteString(name[:1+name[0]])
		name = name[1+name[0]:]
	}
	l.bytes.WriteString(root)
}

// record lays a record: once for the number of bytes of its data, and once more with it.
func (l *laid) record(rr impl.RR) {
	l.name(rr.Owner)
	l.bytes.WriteString(be(rr.Type, 2) + be(rr.Class, 2) + be(rr.TTL, 4))
	trial := laid{whole: l.whole, places: slices.Clone(l.places), rests: slices.Clone(l.rests)}
	trial.bytes.WriteString(l.bytes.String() + "??")
	trial.data(rr)
	l.bytes.WriteString(be(int64(trial.bytes.Len()-l.bytes.Len()-2), 2))
	l.data(rr)
}

func (l *laid) data(rr impl.RR) {
	at := int64(0)
	for _, span := range impl.DataNames(rr.Type, rr.Data) {
		if slices.Contains(pointTypes(), rr.Type) {
			l.bytes.WriteString(rr.Data[at:span.From])
			l.name(rr.Data[span.From:span.To])
			at = span.To
		}
	}
	l.bytes.WriteString(rr.Data[at:])
}

// layMessage says chapter 5 on Encode once more; whole if no pointer is to be laid.
func layMessage(m impl.Message, whole bool) string {
	l := &laid{whole: whole}
	flags := m.Head.Op*2048 + m.Head.Code
	for i, on := range []bool{m.Head.QR, m.Head.AA, m.Head.TC, m.Head.RD, m.Head.RA, m.Head.Z, m.Head.AD, m.Head.CD} {
		if on {
			flags += []int64{32768, 1024, 512, 256, 128, 64, 32, 16}[i]
		}
	}
	l.bytes.WriteString(be(m.Head.ID, 2) + be(flags, 2))
	l.bytes.WriteString(be(int64(len(m.Questions)), 2) + be(int64(len(m.Answer)), 2) + be(int64(len(m.Authority)), 2) + be(int64(len(m.Extra)), 2))
	for _, q := range m.Questions {
		l.name(q.Name)
		l.bytes.WriteString(be(q.Type, 2) + be(q.Class, 2))
	}
	for _, list := range recordLists(&m) {
		for _, rr := range *list {
			l.record(rr)
		}
	}
	return l.bytes.String()
}

// isValid says chapter 5 on valid messages once more.
func isValid(m impl.Message) bool {
	to := func(n, most int64) bool { return n >= 0 && n <= most }
	all := slices.Concat(m.Answer, m.Authority, m.Extra)
	for _, q := range m.Questions {
		all = append(all, impl.RR{Owner: q.Name, Type: q.Type, Class: q.Class})
	}
	for _, rr := range all {
		if !isName(rr.Owner) || !to(rr.Type, 65535) || !to(rr.Class, 65535) || !to(rr.TTL, 4294967295) {
			return false
		}
		if rr.Data != "" && impl.CheckData(rr.Type, rr.Data) != impl.OK {
			return false
		}
	}
	return len(all) <= 400 && to(m.Head.ID, 65535) && to(m.Head.Op, 15) && to(m.Head.Code, 15)
}

// tailName makes a name of few labels, some alike but for capital letters, so that many end alike.
func tailName(r *rand.Rand) string {
	labels := []string{"a", "A", "bc", "bC", "example", "Example", "\x00", "\xc0\x0c"}
	var list []string
	for range r.Intn(5) {
		list = append(list, labels[r.Intn(len(labels))])
	}
	if r.Intn(3) > 0 {
		list = append(list, "zone")
	}
	return nm(list...)
}

// tailData makes data of a type with such names in it.
func tailData(r *rand.Rand, rtype int64) string {
	switch rtype {
	case impl.TypeNS, impl.TypeCNAME, impl.TypePTR, impl.TypeDNAME, impl.TypeNSEC:
		return tailName(r)
	case impl.TypeMX:
		return be(r.Int63(), 2) + tailName(r)
	case impl.TypeSOA:
		return tailName(r) + tailName(r) + be(r.Int63(), 8) + be(r.Int63(), 8) + be(r.Int63(), 4)
	case impl.TypeSRV:
		return be(r.Int63(), 6) + tailName(r)
	case impl.TypeNAPTR:
		return be(r.Int63(), 4) + st("a") + st("") + st("x") + tailName(r)
	}
	return someDataOf(r, rtype)
}

// someRecord makes a record that may stand in a message.
func someRecord(r *rand.Rand) impl.RR {
	types := append(formTypes(), 99, 0, 65535, impl.TypeOPT, impl.TypeTSIG)
	rtype := types[r.Intn(len(types))]
	if r.Intn(2) == 0 {
		rtype = pointTypes()[r.Intn(5)]
	}
	rr := impl.RR{Owner: tailName(r), Type: rtype, Class: int64(r.Intn(65536)), TTL: r.Int63() >> (31 + r.Intn(32))}
	if r.Intn(10) > 0 {
		rr.Data = tailData(r, rtype)
	}
	return rr
}

// someMessage makes a valid message with at most so many entries in each list.
func someMessage(r *rand.Rand, most int) impl.Message {
	on := func() bool { return r.Intn(2) == 0 }
	m := impl.Message{Head: impl.Head{
		ID: int64(r.Intn(65536)), QR: on(), Op: int64(r.Intn(16)), AA: on(), TC: on(), RD: on(),
		RA: on(), Z: on(), AD: on(), CD: on(), Code: int64(r.Intn(16)),
	}}
	for range r.Intn(most + 1) {
		m.Questions = append(m.Questions, impl.Question{Name: tailName(r), Type: int64(r.Intn(65536)), Class: int64(r.Intn(65536))})
	}
	for _, list := range recordLists(&m) {
		for range r.Intn(most + 1) {
			*list = append(*list, someRecord(r))
		}
	}
	return m
}
