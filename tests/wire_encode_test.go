package tests

import (
	"math"
	"slices"
	"strings"
	"testing"

	"loop.example/s01858/impl"
)

// checkEncode writes a message and holds its bytes, and their number, against what is wanted.
func checkEncode(t *testing.T, what string, m impl.Message, want string) {
	t.Helper()
	got, code := impl.Encode(m)
	if string(got) != want || code != impl.OK {
		t.Errorf("%s: Encode = %.600x, %d, want %.600x", what, got, code, want)
	}
	if n, code := impl.MessageSize(m); n != int64(len(want)) || code != impl.OK {
		t.Errorf("%s: MessageSize = %d, %d, want %d", what, n, code, len(want))
	}
}

// checkInvalid holds that a message is not valid.
func checkInvalid(t *testing.T, what string, m impl.Message) {
	t.Helper()
	if got, code := impl.Encode(m); len(got) != 0 || code != impl.ErrForm {
		t.Errorf("%s: Encode = %.100x, %d", what, got, code)
	}
	if n, code := impl.MessageSize(m); n != 0 || code != impl.ErrForm {
		t.Errorf("%s: MessageSize = %d, %d", what, n, code)
	}
}

// checkTooBig holds that a message has that many bytes, which are too many.
func checkTooBig(t *testing.T, what string, m impl.Message, size int64) {
	t.Helper()
	if got, code := impl.Encode(m); len(got) != 0 || code != impl.ErrSize {
		t.Errorf("%s: Encode = %.100x.., %d", what, got, code)
	}
	if n, code := impl.MessageSize(m); n != size || code != impl.OK {
		t.Errorf("%s: MessageSize = %d, %d, want %d", what, n, code, size)
	}
}

func TestEncodeWhole(t *testing.T) {
	checkEncode(t, "nothing", impl.Message{}, strings.Repeat("\x00", 12))
	q := impl.Question{Name: nm("www", "example"), Type: 0x1234, Class: 0x5678}
	checkEncode(t, "a question", impl.Message{Head: impl.Head{ID: 1}, Questions: []impl.Question{q}}, hd(1)+qu(q.Name, 0x1234, 0x5678))
	rr := impl.RR{Owner: nm("h"), Type: 0x1234, Class: 0x5678, TTL: 0x9abcdef0, Data: "xyz"}
	bytes := nm("h") + "\x12\x34\x56\x78\x9a\xbc\xde\xf0\x00\x03xyz"
	for i := range 3 {
		m := impl.Message{Head: impl.Head{ID: 1}}
		*recordLists(&m)[i] = []impl.RR{rr}
		counts := make([]int64, 4)
		counts[1+i] = 1
		checkEncode(t, "a record", m, hd(counts...)+bytes)
	}
	m := impl.Message{
		Head: impl.Head{ID: 1}, Questions: []impl.Question{{Name: root}},
		Answer: []impl.RR{rrOf(root, 99, "1"), rrOf(root, 99, "2")}, Authority: []impl.RR{rrOf(root, 99, "3")}, Extra: []impl.RR{rrOf(root, 99, "45"), rrOf(root, 99, ""), rrOf(root, 99, "6")},
	}
	checkEncode(t, "all lists", m, hd(1, 2, 1, 3)+qu(root, 0, 0)+rec(root, 99, "1")+rec(root, 99, "2")+rec(root, 99, "3")+rec(root, 99, "45")+rec(root, 99, "")+rec(root, 99, "6"))
}

// Owners and questions: what is written ahead, whole or as a rest, is not written again.
func TestEncodePointers(t *testing.T) {
	ask := func(names ...string) impl.Message {
		m := impl.Message{Head: impl.Head{ID: 1}}
		for _, name := range names {
			m.Questions = append(m.Questions, impl.Question{Name: name, Type: 1, Class: 1})
		}
		return m
	}
	for _, c := range []struct {
		what  string
		names []string
		// wire is the names as they are laid; the second begins behind the first and four bytes
		wire []string
	}{
		{"the same", []string{nm("a", "b"), nm("a", "b"), nm("a", "b")}, []string{nm("a", "b"), ptr(12), ptr(12)}},
		{"a rest", []string{nm("a", "b"), nm("b"), nm("c", "b")}, []string{nm("a", "b"), ptr(14), "\x01c" + ptr(14)}},
		{"a longer one", []string{nm("b"), nm("a", "b"), nm("a", "b")}, []string{nm("b"), "\x01a" + ptr(12), ptr(19)}},
		{"the root", []string{root, root, nm("a"), root}, []string{root, root, nm("a"), root}},
		{"nothing in common", []string{nm("a"), nm("b"), nm("c")}, []string{nm("a"), nm("b"), nm("c")}},
		{"a first label in common", []string{nm("a", "b"), nm("a", "c")}, []string{nm("a", "b"), nm("a", "c")}},
		{"a label within", []string{nm("a", "b", "c"), nm("b")}, []string{nm("a", "b", "c"), nm("b")}},
		{"letters", []string{nm("www", "example"), nm("www", "Example"), nm("Www", "example"), nm("www", "Example")}, []string{nm("www", "example"), nm("www", "Example"), "\x03Www" + ptr(16), ptr(29)}},
		{"the first of two places", []string{nm("x", "b"), nm("y", "b"), nm("b"), nm("y", "b")}, []string{nm("x", "b"), "\x01y" + ptr(14), ptr(14), ptr(21)}},
		{"a rest that ends by a pointer", []string{nm("c"), nm("b", "c"), nm("a", "b", "c"), nm("z", "a", "b", "c"), nm("a", "b", "c")}, []string{nm("c"), "\x01b" + ptr(12), "\x01a" + ptr(19), "\x01z" + ptr(27), ptr(27)}},
		{"labels that look like others", []string{nm("x\x01b"), nm("b"), nm("b")}, []string{nm("x\x01b"), nm("b"), ptr(21)}},
		{"long ones", []string{nameOf(255), nameOf(255), nameOf(255)[64:]}, []string{nameOf(255), ptr(12), ptr(76)}},
	} {
		want := hd(int64(len(c.names)))
		for _, w := range c.wire {
			want += qu(w, 1, 1)
		}
		checkEncode(t, c.what, ask(c.names...), want)
	}
	q, o := nm("a", "b"), nm("x", "a", "b")
	m := ask(q)
	m.Answer, m.Authority, m.Extra = []impl.RR{rrOf(q, 99, "")}, []impl.RR{rrOf(o, 99, "")}, []impl.RR{rrOf(o, 99, "")}
	checkEncode(t, "owners", m, hd(1, 1, 1, 1)+qu(q, 1, 1)+rec(ptr(12), 99, "")+rec("\x01x"+ptr(12), 99, "")+rec(ptr(33), 99, ""))
}

// Names in the data of the five types have pointers and are led to.
func TestEncodeDataPointers(t *testing.T) {
	owner, name := nm("h", "z"), nm("n", "z")
	// the owner stands at 12, its "z" at 14; the data begins at 27, behind a preference at 29
	for _, rtype := range []int64{impl.TypeNS, impl.TypeCNAME, impl.TypePTR} {
		m := answers(rrOf(owner, rtype, name), rrOf(name, rtype, owner), rrOf(owner, rtype, root), rrOf(root, rtype, nm("q", "n", "z")))
		checkEncode(t, "a name", m, hd(0, 4)+rec(owner, rtype, "\x01n"+ptr(14))+rec(ptr(27), rtype, ptr(12))+rec(ptr(12), rtype, root)+rec(root, rtype, "\x01q"+ptr(27)))
	}
	m := answers(rrOf(owner, impl.TypeMX, "\x01\x02"+name), rrOf(name, impl.TypeMX, "\x01n"+owner), rrOf(owner, impl.TypeMX, "\x00\x00\x00"))
	checkEncode(t, "an MX", m, hd(0, 3)+rec(owner, impl.TypeMX, "\x01\x02\x01n"+ptr(14))+rec(ptr(29), impl.TypeMX, "\x01n"+ptr(12))+rec(ptr(12), impl.TypeMX, "\x00\x00\x00"))
	// an SOA's second name may be led to its first
	m = answers(rrOf(owner, impl.TypeSOA, name+nm("ad", "n", "z")+soaTail), rrOf(nm("ad", "n", "z"), impl.TypeSOA, name+name+soaTail))
	checkEncode(t, "an SOA", m, hd(0, 2)+rec(owner, impl.TypeSOA, "\x01n"+ptr(14)+"\x02ad"+ptr(27)+soaTail)+rec(ptr(31), impl.TypeSOA, ptr(27)+ptr(27)+soaTail))
	m = answers(rrOf(owner, impl.TypeSOA, nm("Z")+root+soaTail))
	checkEncode(t, "an SOA of other letters", m, hd(0, 1)+rec(owner, impl.TypeSOA, nm("Z")+root+soaTail))
}

// Names in other data are written whole, and none is led to them.
func TestEncodeOtherNames(t *testing.T) {
	owner := nm("h", "z")
	for _, c := range []struct {
		rtype int64
		data  string
	}{
		{impl.TypeDNAME, nm("n", "z")},
		{impl.TypeSRV, "\x00\x01\x00\x02\x00\x03" + nm("n", "z")},
		{impl.TypeNAPTR, "\x00\x01\x00\x02\x00\x00\x00" + nm("n", "z")},
		{impl.TypeNSEC, nm("n", "z") + "\x00\x01\x40"},
		{impl.TypeTXT, "\x01n\x01z\x00"},
		{99, nm("n", "z")},
		{impl.TypeTSIG, nm("n", "z") + "more"},
	} {
		m := answers(rrOf(owner, c.rtype, c.data), rrOf(nm("n", "z"), c.rtype, c.data), rrOf(nm("n", "z"), impl.TypeNS, nm("n", "z")))
		second := 12 + 5 + 10 + len(c.data)
		checkEncode(t, "whole names of "+impl.ShowType(c.rtype), m, hd(0, 3)+rec(owner, c.rtype, c.data)+rec("\x01n"+ptr(14), c.rtype, c.data)+rec(ptr(second), impl.TypeNS, ptr(second)))
	}
}

// No pointer leads to a place above 16383.
func TestEncodeFarNames(t *testing.T) {
	name, one := nm("a", "b"), nm("b")
	for begin, wire := range map[int][3]string{
		16380: {name, ptr(16380), ptr(16382)},
		16381: {name, ptr(16381), ptr(16383)},
		16382: {name, ptr(16382), one},
		16383: {name, ptr(16383), one},
		16384: {name, name, one},
		16385: {name, name, one},
		40000: {name, name, one},
	} {
		data := strings.Repeat("d", begin-23)
		want := hd(0, 4) + rec(root, 99, data)
		if len(want) != begin {
			t.Fatalf("the name begins at %d", len(want))
		}
		for _, w := range wire {
			want += rec(w, 99, "")
		}
		checkEncode(t, "far names", answers(rrOf(root, 99, data), rrOf(name, 99, ""), rrOf(name, 99, ""), rrOf(one, 99, "")), want)
	}
	// what stands near is led to from anywhere
	data := strings.Repeat("d", 60000)
	checkEncode(t, "from far", answers(rrOf(name, 99, data), rrOf(name, impl.TypeNS, one)), hd(0, 2)+rec(name, 99, data)+rec(ptr(12), impl.TypeNS, ptr(14)))
	// a name of which only the first labels stand near
	long := nm(times(20, "l")...)
	data = strings.Repeat("d", 16383-4-23)
	at := 16379
	checkEncode(t, "partly near", answers(rrOf(root, 99, data), rrOf(long, 99, ""), rrOf(long[2:], 99, ""), rrOf(long[4:], 99, ""), rrOf(long[6:], 99, "")),
		hd(0, 5)+rec(root, 99, data)+rec(long, 99, "")+rec(ptr(at+2), 99, "")+rec(ptr(at+4), 99, "")+rec(long[6:], 99, ""))
}

func TestEncodeSize(t *testing.T) {
	data := strings.Repeat("d", 65535-23)
	checkEncode(t, "65535 bytes", answers(rrOf(root, 99, data)), hd(0, 1)+rec(root, 99, data))
	checkTooBig(t, "65536 bytes", answers(rrOf(root, 99, data+"d")), 65536)
	checkTooBig(t, "a record more", answers(rrOf(root, 99, data), rrOf(root, 99, "")), 65546)
	checkTooBig(t, "the longest data", answers(rrOf(root, 99, strings.Repeat("d", 65535))), 12+11+65535)
	// two names of which the second is a pointer: just as many bytes as may be
	long := nameOf(255)
	short := data[:65535-12-2*10-255-2]
	checkEncode(t, "65535 bytes by a pointer", answers(rrOf(long, 99, short), rrOf(long, 99, "")), hd(0, 2)+rec(long, 99, short)+rec(ptr(12), 99, ""))
	checkTooBig(t, "65536 bytes with a pointer", answers(rrOf(long, 99, short+"d"), rrOf(long, 99, "")), 65536)
	m := impl.Message{Extra: slices.Repeat([]impl.RR{rrOf(root, 99, strings.Repeat("d", 65535))}, 400)}
	checkTooBig(t, "the greatest message", m, 12+400*(11+65535))
}

// changed is a message that is valid but for what is done to it.
func changed(do func(m *impl.Message)) impl.Message {
	m := impl.Message{
		Head: impl.Head{ID: 7, Op: 7, Code: 7}, Questions: []impl.Question{{Name: nm("a"), Type: 7, Class: 7}, {Name: nm("b"), Type: 7, Class: 7}},
	}
	for _, list := range recordLists(&m) {
		*list = []impl.RR{rrOf(nm("c"), impl.TypeNS, nm("d")), rrOf(nm("e"), 99, "f")}
	}
	do(&m)
	return m
}

// checkNumber holds that a number may be from 0 to most, and nothing else.
func checkNumber(t *testing.T, what string, most int64, set func(m *impl.Message, n int64)) {
	t.Helper()
	for _, n := range []int64{0, 1, most - 1, most} {
		m := changed(func(m *impl.Message) { set(m, n) })
		checkEncode(t, what, m, layMessage(m, false))
		if got, code := impl.Decode([]byte(layMessage(m, false))); code != impl.OK || !sameMessage(got, m) {
			t.Errorf("%s of %d is read as %+v, %d", what, n, got, code)
		}
	}
	for _, n := range []int64{-1, most + 1, -most, math.MinInt64, math.MaxInt64, 1 << 32, 1 << 48, -1 << 32} {
		checkInvalid(t, what, changed(func(m *impl.Message) { set(m, n) }))
	}
}

func TestEncodeNumbers(t *testing.T) {
	checkNumber(t, "ID", 65535, func(m *impl.Message, n int64) { m.Head.ID = n })
	checkNumber(t, "Op", 15, func(m *impl.Message, n int64) { m.Head.Op = n })
	checkNumber(t, "Code", 15, func(m *impl.Message, n int64) { m.Head.Code = n })
	for k := range 2 {
		checkNumber(t, "a question's type", 65535, func(m *impl.Message, n int64) { m.Questions[k].Type = n })
		checkNumber(t, "a question's class", 65535, func(m *impl.Message, n int64) { m.Questions[k].Class = n })
		for i := range 3 {
			at := func(m *impl.Message) *impl.RR { return &(*recordLists(m)[i])[k] }
			checkNumber(t, "a record's class", 65535, func(m *impl.Message, n int64) { at(m).Class = n })
			checkNumber(t, "a record's TTL", 4294967295, func(m *impl.Message, n int64) { at(m).TTL = n })
			checkNumber(t, "a record's type without data", 65535, func(m *impl.Message, n int64) { at(m).Type, at(m).Data = n, "" })
		}
	}
}

func TestEncodeNoNames(t *testing.T) {
	for _, name := range noNames() {
		for k := range 2 {
			checkInvalid(t, "no name asked", changed(func(m *impl.Message) { m.Questions[k].Name = name }))
			for i := range 3 {
				checkInvalid(t, "no name that owns", changed(func(m *impl.Message) { (*recordLists(m)[i])[k].Owner = name }))
			}
		}
	}
}

func TestEncodeData(t *testing.T) {
	for rtype, list := range someData() {
		for k, data := range list {
			if len(data) > 65000 {
				continue
			}
			m := changed(func(m *impl.Message) { *recordLists(m)[k%3] = []impl.RR{rrOf(nm("o"), rtype, data)} })
			checkEncode(t, "data", m, layMessage(m, false))
		}
	}
	for _, rtype := range append(formTypes(), freeTypes()...) {
		m := changed(func(m *impl.Message) { m.Authority[0] = rrOf(nm("o"), rtype, "") })
		checkEncode(t, "no data", m, layMessage(m, false))
	}
	for _, rtype := range append(formTypes(), 99) {
		for _, data := range append(noNames(), "\x03ab", strings.Repeat("\x01a", 40000), "\x00\x00\x00\x00\x00\x00\x00\xc0\x0c", strings.Repeat("d", 65536)) {
			if data == "" || impl.CheckData(rtype, data) == impl.OK {
				continue
			}
			for i := range 3 {
				checkInvalid(t, "ill data", changed(func(m *impl.Message) { (*recordLists(m)[i])[1] = rrOf(nm("o"), rtype, data) }))
			}
		}
	}
	for _, rtype := range noTypes() {
		checkInvalid(t, "no type", changed(func(m *impl.Message) { m.Extra[1] = rrOf(nm("o"), rtype, "ABCD") }))
	}
}

func TestEncodeCounts(t *testing.T) {
	of := func(counts ...int) impl.Message {
		m := impl.Message{Questions: slices.Repeat([]impl.Question{{Name: root}}, counts[0])}
		for i, list := range recordLists(&m) {
			*list = slices.Repeat([]impl.RR{{Owner: root}}, counts[1+i])
		}
		return m
	}
	for _, counts := range [][]int{{400, 0, 0, 0}, {0, 400, 0, 0}, {0, 0, 400, 0}, {0, 0, 0, 400}, {100, 100, 100, 100}, {1, 399, 0, 0}, {0, 0, 1, 399}} {
		m := of(counts...)
		checkEncode(t, "as many as may be", m, layMessage(m, false))
		for i := range counts {
			counts[i]++
			checkInvalid(t, "one more", of(counts...))
			counts[i]--
		}
	}
	checkInvalid(t, "65536 questions", of(65536, 0, 0, 0))
	checkInvalid(t, "65537 records", of(0, 65537, 0, 0))
	// not valid comes ahead of too big
	huge := rrOf(root, 99, strings.Repeat("d", 65535))
	checkInvalid(t, "not valid and too big", impl.Message{Head: impl.Head{ID: -1}, Answer: []impl.RR{huge}})
	checkInvalid(t, "too big and not valid", impl.Message{Answer: []impl.RR{huge, {}}})
}
