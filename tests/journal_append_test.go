package tests

import (
	"math/rand"
	"slices"
	"strings"
	"testing"

	"loop.example/s01858/impl"
)

func TestAppendChange(t *testing.T) {
	zones, changes := keptZones(t)
	journal := kept(zones[0])
	for n, c := range changes {
		next := journal + framed(keptChange(c))
		checkAppend(t, "change "+itoa(n), journal, c, next, impl.OK)
		checkAppend(t, "change "+itoa(n)+" alone", kept(zones[n]), c, kept(zones[n], c), impl.OK)
		checkOpen(t, "behind change "+itoa(n), next, zones[n+1], changes[:n+1], int64(len(next)), impl.OK)
		journal = next
	}
}

// The frame of a change byte by byte.
func TestAppendChangeBytes(t *testing.T) {
	z := mustBuild(t, begun(root, rrOf(nm("a"), impl.TypeA, "abcd")), root)
	add := []impl.RR{rrOf(nm("b"), impl.TypeTXT, "\x01x"), rrOf(nm("c"), impl.TypeTXT, "\x00")}
	c := impl.Change{Old: soaOf(root, 1), New: soaOf(root, 2), Del: []impl.RR{rrOf(nm("a"), impl.TypeA, "abcd")}, Add: add}
	soa := "\x00\x00\x06\x00\x01\x00\x00\x0e\x10\x00\x1f\x02ns\x00\x05admin\x00"
	payload := "C" + soa + "\x00\x00\x00\x01" + soaTail[4:] + soa + "\x00\x00\x00\x02" + soaTail[4:] +
		"\x00\x01" + "\x01a\x00\x00\x01\x00\x01\x00\x00\x0e\x10\x00\x04abcd" +
		"\x00\x02" + "\x01b\x00\x00\x10\x00\x01\x00\x00\x0e\x10\x00\x02\x01x" + "\x01c\x00\x00\x10\x00\x01\x00\x00\x0e\x10\x00\x01\x00"
	if len(payload) != 135 {
		t.Fatalf("the payload has %d bytes", len(payload))
	}
	checkAppend(t, "a change", kept(z), c, kept(z)+"\x00\x00\x00\x87"+payload+framed(payload)[4+135:], impl.OK)
}

// Where one is not met the code is that of the first; nothing stands beside it.
func TestAppendChangeNoJournal(t *testing.T) {
	z, c := mustBuild(t, begun(inEx()), inEx()), hostChange(1, 1)
	b := kept(z)
	long := b + string(make([]byte, 400001-len(b)))
	for _, change := range []impl.Change{c, {}, hostChange(2, 1), {Del: make([]impl.RR, 501)}} {
		checkAppend(t, "no byte", "", change, "", impl.ErrDisk)
		checkAppend(t, "cut off", b[:len(b)-1], change, "", impl.ErrDisk)
		checkAppend(t, "a change first", framed(keptChange(c)), change, "", impl.ErrDisk)
		checkAppend(t, "too long", long, change, "", impl.ErrSize)
		// All but not all of it is used.
		checkAppend(t, "a byte behind", b+"\x00", change, "", impl.ErrDisk)
		checkAppend(t, "MaxJournal bytes", long[:400000], change, "", impl.ErrDisk)
		checkAppend(t, "a torn change", kept(z, c)[:len(kept(z, c))-1], change, "", impl.ErrDisk)
		checkAppend(t, "a frame behind", b+framed(""), change, "", impl.ErrDisk)
		checkAppend(t, "a change that does not fit", kept(z, c, c), change, "", impl.ErrDisk)
		checkAppend(t, "41 changes", kept(z, hostChanges(1, 41)...), change, "", impl.ErrDisk)
	}
}

func TestAppendChangeCount(t *testing.T) {
	z, changes := mustBuild(t, begun(inEx()), inEx()), hostChanges(1, 41)
	for _, n := range []int{38, 39} {
		checkAppend(t, itoa(n)+" changes", kept(z, changes[:n]...), changes[n], kept(z, changes[:n+1]...), impl.OK)
		checkAppend(t, itoa(n)+" changes and one that does not fit", kept(z, changes[:n]...), changes[n+1], "", impl.ErrSerial)
	}
	full := kept(z, changes[:40]...)
	checkAppend(t, "40 changes", full, changes[40], "", impl.ErrCount)
	// Whatever comes, that there are too many is told first.
	checkAppend(t, "40 changes and an ill record", full, impl.Change{}, "", impl.ErrCount)
	checkAppend(t, "40 changes and one that does not fit", full, changes[0], "", impl.ErrCount)
	checkAppend(t, "40 changes and a great one", full, hostChange(41, 65535), "", impl.ErrCount)
}

// illRecords are records that are none of a valid message, made of one that is.
func illRecords(rr impl.RR) map[string]impl.RR {
	out := map[string]impl.RR{}
	for tell, do := range map[string]func(rr *impl.RR){
		"no owner":          func(rr *impl.RR) { rr.Owner = "" },
		"half an owner":     func(rr *impl.RR) { rr.Owner = "\x01" },
		"too long an owner": func(rr *impl.RR) { rr.Owner = nameOf(256) },
		"a pointer":         func(rr *impl.RR) { rr.Owner = "\xc0\x00" },
		"the type -1":       func(rr *impl.RR) { rr.Type = -1 },
		"the type 65536":    func(rr *impl.RR) { rr.Type = 65536 },
		"a type beyond":     func(rr *impl.RR) { rr.Type += 65536 },
		"the class -1":      func(rr *impl.RR) { rr.Class = -1 },
		"the class 65536":   func(rr *impl.RR) { rr.Class = 65536 },
		"the time -1":       func(rr *impl.RR) { rr.TTL = -1 },
		"the time 2^32":     func(rr *impl.RR) { rr.TTL = 4294967296 },
		"ill data":          func(rr *impl.RR) { rr.Type, rr.Data = impl.TypeA, "abc" },
		"long data":         func(rr *impl.RR) { rr.Type, rr.Data = 65280, strings.Repeat("x", 65536) },
	} {
		ill := rr
		do(&ill)
		out[tell] = ill
	}
	return out
}

func TestAppendChangeIllRecords(t *testing.T) {
	a := rrOf(inEx("a"), impl.TypeA, "abcd")
	z := mustBuild(t, begun(inEx(), a), inEx())
	whole := hostChange(1, 1)
	whole.Del = []impl.RR{a}
	place := func(at int, ill impl.RR) impl.Change {
		c := cloneChange(whole)
		switch at {
		case 0:
			c.Old = ill
		case 1:
			c.New = ill
		case 2:
			c.Del = append(c.Del, ill)
		case 3:
			c.Add = append(c.Add, ill)
		case 4:
			c.Del = slices.Insert(c.Del, 0, ill)
		case 5:
			c.Add = slices.Insert(c.Add, 0, ill)
		}
		return c
	}
	for at := range 6 {
		for tell, ill := range illRecords([]impl.RR{whole.Old, whole.New, a, whole.Add[0], a, whole.Add[0]}[at]) {
			c := place(at, ill)
			checkAppend(t, tell+" at "+itoa(at), kept(z), c, "", impl.ErrForm)
			// It is told ahead of what PatchZone says, and of the size.
			c.New = c.Old
			c.Add = append(c.Add, rrOf(inEx("b"), 65280, strings.Repeat("x", 65535)))
			for range 7 {
				c.Add = append(c.Add, c.Add[len(c.Add)-1])
			}
			if at != 1 {
				checkAppend(t, tell+" at "+itoa(at)+" and more", kept(z), c, "", impl.ErrForm)
			}
		}
	}
}

// Each code that PatchZone may answer.
func TestAppendChangePatch(t *testing.T) {
	z := mustBuild(t, begun(inEx(), rrOf(inEx("a"), impl.TypeA, "abcd"), rrOf(inEx("c"), impl.TypeCNAME, nm("x")), rrOf(inEx("d"), impl.TypeDNAME, nm("x"))), inEx())
	ns := rrOf(inEx(), impl.TypeNS, nm("ns"))
	step := func(del, add []impl.RR) impl.Change {
		return impl.Change{Old: soaOf(inEx(), 1), New: soaOf(inEx(), 2), Del: del, Add: add}
	}
	one := func(rr impl.RR) impl.Change { return step(nil, []impl.RR{rr}) }
	var many []impl.RR
	for n := range 501 {
		many = append(many, rrOf(inEx("h"+itoa(n)), impl.TypeA, be(int64(n), 4)))
	}
	for _, c := range []struct {
		tell   string
		change impl.Change
		code   int64
	}{
		{"nothing", step(nil, nil), impl.OK},
		{"501 dropped", step(many, nil), impl.ErrForm},
		{"501 added", step(nil, many), impl.ErrForm},
		{"500 dropped", step(many[:500], nil), impl.ErrData},
		{"500 added", step(nil, many[:500]), impl.ErrCount},
		{"495 added", step(nil, many[:495]), impl.OK},
		{"496 added", step(nil, many[:496]), impl.ErrCount},
		{"no change at all", impl.Change{Old: ns, New: ns}, impl.ErrSerial},
		{"another Old", impl.Change{Old: soaOf(inEx(), 3), New: soaOf(inEx(), 4)}, impl.ErrSerial},
		{"the same serial", impl.Change{Old: soaOf(inEx(), 1), New: soaOf(inEx(), 1)}, impl.ErrSerial},
		{"half round", impl.Change{Old: soaOf(inEx(), 1), New: soaOf(inEx(), 2147483649)}, impl.ErrSerial},
		{"nearly half round", impl.Change{Old: soaOf(inEx(), 1), New: soaOf(inEx(), 2147483648)}, impl.OK},
		{"New without data", impl.Change{Old: soaOf(inEx(), 1), New: rrOf(inEx(), impl.TypeSOA, "")}, impl.ErrSerial},
		{"dropped twice", step([]impl.RR{rrOf(inEx("a"), impl.TypeA, "abcd"), rrOf(inEx("a"), impl.TypeA, "abcd")}, nil), impl.ErrData},
		{"an SOA dropped", step([]impl.RR{soaOf(inEx(), 1)}, nil), impl.ErrData},
		{"an SOA added", one(soaOf(inEx(), 2)), impl.ErrData},
		{"a class", one(inClass(rrOf(inEx("b"), impl.TypeA, "abcd"), 3)), impl.ErrClass},
		{"a time", one(inTime(rrOf(inEx("b"), impl.TypeA, "abcd"), 2147483648)), impl.ErrTTL},
		{"a type", one(rrOf(inEx("b"), impl.TypeANY, "")), impl.ErrType},
		{"no data", one(rrOf(inEx("b"), impl.TypeA, "")), impl.ErrData},
		{"outside", one(rrOf(nm("com"), impl.TypeA, "abcd")), impl.ErrZone},
		{"a time in a set", one(inTime(rrOf(inEx("a"), impl.TypeA, "abce"), 5)), impl.ErrMixed},
		{"New elsewhere", impl.Change{Old: soaOf(inEx(), 1), New: soaOf(inEx("a"), 2)}, impl.ErrSOA},
		{"no NS", step([]impl.RR{ns}, nil), impl.ErrNS},
		{"a wildcard", one(rrOf(inEx("*"), impl.TypeNS, nm("x"))), impl.ErrWild},
		{"beside a CNAME", one(rrOf(inEx("c"), impl.TypeA, "abcd")), impl.ErrSingle},
		{"below a DNAME", one(rrOf(inEx("b", "d"), impl.TypeA, "abcd")), impl.ErrBelow},
		{"what is there", one(rrOf(inEx("a"), impl.TypeA, "abcd")), impl.OK},
	} {
		if _, code := impl.PatchZone(z, c.change); code != c.code {
			t.Errorf("%s: PatchZone = %d, want %d", c.tell, code, c.code)
		}
		want := ""
		if c.code == impl.OK {
			want = kept(z, c.change)
		}
		checkAppend(t, c.tell, kept(z), c.change, want, c.code)
	}
	for tell, c := range otherChanges(hostChange(1, 1)) {
		_, code := impl.PatchZone(z, c)
		if !validChange(c) {
			code = impl.ErrForm
		}
		if code == impl.OK {
			t.Errorf("%s: PatchZone takes it", tell)
		}
		checkAppend(t, tell, kept(z), c, "", code)
	}
}

// validChange tells whether all records of a change are of valid messages.
func validChange(c impl.Change) bool {
	for _, rr := range slices.Concat([]impl.RR{c.Old, c.New}, c.Del, c.Add) {
		if !isValid(answers(rr)) {
			return false
		}
	}
	return true
}

func TestAppendChangeSize(t *testing.T) {
	z := greatZone(t, 390000)
	room := 10000 - len(framed(keptChange(hostChange(1, 0))))
	for size, code := range map[int]int64{room - 1: impl.OK, room: impl.OK, room + 1: impl.ErrSize, 65535: impl.ErrSize} {
		c, want := hostChange(1, size), ""
		if code == impl.OK {
			want = kept(z, c)
		}
		checkAppend(t, itoa(size)+" bytes", kept(z), c, want, code)
	}
	full := greatZone(t, 400000)
	checkAppend(t, "a full journal", kept(full), hostChange(1, 1), "", impl.ErrSize)
	// What PatchZone says is told ahead of it.
	checkAppend(t, "a full journal and a wrong serial", kept(full), hostChange(2, 1), "", impl.ErrSerial)
	twice := hostChange(1, room+1)
	twice.Add = append(twice.Add, soaOf(inEx(), 2))
	checkAppend(t, "an SOA and too many bytes", kept(z), twice, "", impl.ErrData)
	much := hostChange(1, 1)
	for n := range 495 {
		much.Add = append(much.Add, rrOf(inEx("much"), 65280, itoa(n)+strings.Repeat("x", 65000)))
	}
	checkAppend(t, "very many bytes", kept(mustBuild(t, begun(inEx()), inEx())), much, "", impl.ErrSize)
}

func TestAppendChangeAny(t *testing.T) {
	r := rand.New(rand.NewSource(146))
	codes := map[int64]int{}
	for n := range 3000 {
		zones, history := historyOf(t, r, apexes()[n%3], 1+n%4, 3)
		last := len(history) - 1
		journal, c := kept(zones[0], history[:last]...), cloneChange(history[last])
		switch n % 5 {
		case 1:
			spoilChange(r, zones[last], &c)
		case 2:
			journal = string(bent(r, []byte(journal)))
		case 3:
			c = cloneChange(history[r.Intn(len(history))])
		}
		want, code := appendOf(journal, c)
		codes[code]++
		checkAppend(t, "journal "+itoa(n), journal, c, want, code)
	}
	for _, code := range []int64{impl.OK, impl.ErrDisk, impl.ErrSerial, impl.ErrData} {
		if codes[code] < 50 {
			t.Errorf("the codes met are %v", codes)
		}
	}
}
