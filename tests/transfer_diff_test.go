package tests

import (
	"math/rand"
	"slices"
	"testing"

	"loop.example/s01858/impl"
)

// startZone is the records of a zone that is changed, but for its SOA.
const startZone = "@ NS ns\na A 192.0.2.1\na A 192.0.2.2\na TXT x\nb.a MX 5 a\nc CNAME a\n"

func checkDiff(t *testing.T, tell string, old, new impl.Zone, want impl.Change, code int64) {
	t.Helper()
	if got, gotCode := impl.DiffZones(old, new); gotCode != code || !sameChange(got, want) {
		t.Errorf("%s: DiffZones = %s, %d, want %s, %d", tell, tellChange(got), gotCode, tellChange(want), code)
	}
}

// diffCase is two zones, the serials 7 and 8 and an NS left out, and what lies between them.
type diffCase struct{ old, new, del, add string }

func diffCases() []diffCase {
	return []diffCase{
		{"", "", "", ""},
		{"a A 192.0.2.1", "a A 192.0.2.1", "", ""},
		// A datum more, less, another; the order is the zone's.
		{"", "a A 192.0.2.1", "", "a A 192.0.2.1"},
		{"a A 192.0.2.1", "", "a A 192.0.2.1", ""},
		{"a A 192.0.2.1\na A 192.0.2.2", "a A 192.0.2.2\na A 192.0.2.3", "a A 192.0.2.1", "a A 192.0.2.3"},
		{"a A 192.0.2.9\na A 192.0.2.8", "a A 192.0.2.7\na A 192.0.2.6", "a A 192.0.2.8\na A 192.0.2.9", "a A 192.0.2.6\na A 192.0.2.7"},
		{"@ NS b", "@ NS c", "@ NS b", "@ NS c"},
		{"a A 192.0.2.1", "a TXT x", "a A 192.0.2.1", "a TXT x"},
		{"a TYPE65280 \\# 0", "a TYPE65280 \\# 1 00", "a TYPE65280 \\# 0", "a TYPE65280 \\# 1 00"},
		// A datum's letters.
		{"a MX 5 b\na MX 6 b", "a MX 5 B\na MX 6 b", "a MX 5 b", "a MX 5 B"},
		{"a TXT x", "a TXT X", "a TXT x", "a TXT X"},
		{"a CNAME b", "a CNAME B", "a CNAME b", "a CNAME B"},
		// A time is that of all the set.
		{"a A 192.0.2.1\na A 192.0.2.2\na TXT x", "a 5 A 192.0.2.1\na 5 A 192.0.2.2\na TXT x", "a A 192.0.2.1\na A 192.0.2.2", "a 5 A 192.0.2.1\na 5 A 192.0.2.2"},
		{"a 0 A 192.0.2.1", "a 2147483647 A 192.0.2.1", "a 0 A 192.0.2.1", "a 2147483647 A 192.0.2.1"},
		// An owner's letters are those of all its sets.
		{"a A 192.0.2.1\na TXT x\nb A 192.0.2.1", "A A 192.0.2.1\nA TXT x\nb A 192.0.2.1", "a A 192.0.2.1\na TXT x", "A A 192.0.2.1\nA TXT x"},
		{"b.a TXT x", "b.A TXT x", "b.a TXT x", "b.A TXT x"},
		// Whole owners, in the order of names.
		{"b A 192.0.2.1\na A 192.0.2.1\nz.a TXT x", "", "a A 192.0.2.1\nz.a TXT x\nb A 192.0.2.1", ""},
		{"", "b A 192.0.2.1\na TXT x\na A 192.0.2.1\nz.a TXT x", "", "a A 192.0.2.1\na TXT x\nz.a TXT x\nb A 192.0.2.1"},
		{"a A 192.0.2.1", "b A 192.0.2.1", "a A 192.0.2.1", "b A 192.0.2.1"},
		{"a A 192.0.2.1\nb.a A 192.0.2.1", "a DNAME b", "a A 192.0.2.1\nb.a A 192.0.2.1", "a DNAME b"},
		{"a CNAME b", "a A 192.0.2.1", "a CNAME b", "a A 192.0.2.1"},
	}
}

func TestDiff(t *testing.T) {
	for _, c := range diffCases() {
		old, new := zoneWith(t, 7, "@ NS ns\n"+c.old), zoneWith(t, 8, "@ NS ns\n"+c.new)
		want := impl.Change{Old: soaIn(old), New: soaIn(new), Del: records(t, c.del), Add: records(t, c.add)}
		checkDiff(t, c.old+" to "+c.new, old, new, want, impl.OK)
	}
}

// The SOA is in neither list, whatever of it is another.
func TestDiffSOA(t *testing.T) {
	old := zoneWith(t, 7, startZone)
	for _, soa := range []string{
		"@ SOA ns admin 8 7200 900 86400 300", "@ SOA NS admin 8 7200 900 86400 300", "@ SOA ns2 admin2 9 1 2 3 4", "@ 5 SOA ns admin 8 7200 900 86400 300",
	} {
		new := zoneText(t, "$TTL 3600\n"+soa+"\n"+startZone)
		checkDiff(t, soa, old, new, impl.Change{Old: soaIn(old), New: records(t, soa)[0]}, impl.OK)
	}
	// Other letters of the apex are those of its other sets, too.
	z, other := begun(inEx()), begun(nm("EXAMPLE"))
	other[0] = soaOf(nm("EXAMPLE"), 2)
	want := impl.Change{Old: z[0], New: other[0], Del: z[1:], Add: other[1:]}
	checkDiff(t, "an apex's letters", mustBuild(t, z, inEx()), mustBuild(t, other, inEx()), want, impl.OK)
}

func TestDiffSerials(t *testing.T) {
	for _, c := range []struct {
		old, new int64
		code     int64
	}{
		{7, 8, impl.OK},
		{7, 7, impl.ErrSerial},
		{8, 7, impl.ErrSerial},
		{0, 1, impl.OK},
		{0, 2147483647, impl.OK},
		{0, 2147483648, impl.ErrSerial},
		{0, 4294967295, impl.ErrSerial},
		{4294967295, 0, impl.OK},
		{4294967295, 2147483646, impl.OK},
		{4294967295, 2147483647, impl.ErrSerial},
		{4294967295, 4294967294, impl.ErrSerial},
		{2147483648, 0, impl.ErrSerial},
	} {
		old, new := zoneWith(t, c.old, startZone), zoneWith(t, c.new, startZone+"new A 192.0.2.1")
		want := impl.Change{Old: soaIn(old), New: soaIn(new), Add: records(t, "new A 192.0.2.1")}
		if c.code != impl.OK {
			want = impl.Change{}
		}
		checkDiff(t, itoa(int(c.old))+" to "+itoa(int(c.new)), old, new, want, c.code)
	}
}

func TestDiffNotValid(t *testing.T) {
	old, new := zoneWith(t, 7, startZone), zoneWith(t, 8, startZone)
	for tell, ill := range noZones(old) {
		checkDiff(t, tell+" first", ill, new, impl.Change{}, impl.ErrForm)
		checkDiff(t, tell+" second", old, ill, impl.Change{}, impl.ErrForm)
		checkDiff(t, tell+" twice", ill, ill, impl.Change{}, impl.ErrForm)
	}
	capitals := new
	capitals.Apex = nm("EXAMPLE")
	checkDiff(t, "an apex in other letters", old, capitals, impl.Change{}, impl.ErrForm)
	checkDiff(t, "an apex in other letters, backwards", capitals, old, impl.Change{}, impl.ErrForm)
	com := mustBuild(t, []impl.RR{soaOf(nm("com"), 8), rrOf(nm("com"), impl.TypeNS, nm("ns"))}, nm("com"))
	checkDiff(t, "another apex", old, com, impl.Change{}, impl.ErrForm)
}

func TestDiffMost(t *testing.T) {
	list := begun(inEx())
	for n := range 498 {
		list = append(list, rrOf(inEx("h"+itoa(n/3)), impl.TypeTXT, st(itoa(n))))
	}
	old := mustBuild(t, list, inEx())
	list[0] = soaOf(inEx(), 2)
	for i := range list[2:] {
		list[2+i].TTL = 5
	}
	new := mustBuild(t, list, inEx())
	want := impl.Change{Old: soaIn(old), New: soaIn(new), Del: othersIn(old)[1:], Add: othersIn(new)[1:]}
	checkDiff(t, "MaxRecords records", old, new, want, impl.OK)
	if got, code := impl.PatchZone(old, want); code != impl.OK || !sameZone(got, new) {
		t.Errorf("PatchZone = %s, %d", tellZone(got), code)
	}
}

func TestDiffAnyZones(t *testing.T) {
	r := rand.New(rand.NewSource(131))
	met := map[int64]int{}
	for n := range 2000 {
		old := changeZone(t, r, apexes()[n%3], 10)
		new := laterZone(t, r, old, 6)
		switch n % 10 {
		case 0:
			new = changeZone(t, r, old.Apex, 10)
		case 1:
			old, new = new, old
		case 2:
			bendZone(r, &new)
		case 3:
			bendZone(r, &old)
		}
		want, code := diffOf(old, new)
		checkDiff(t, tellZone(old)+" to "+tellZone(new), old, new, want, code)
		met[code]++
	}
	if met[impl.OK] < 1000 || met[impl.ErrSerial] < 200 || met[impl.ErrForm] < 100 {
		t.Errorf("the codes met are %v", met)
	}
}

func checkPatch(t *testing.T, tell string, z impl.Zone, c impl.Change, want impl.Zone, code int64) {
	t.Helper()
	if got, gotCode := impl.PatchZone(z, c); gotCode != code || !sameZone(got, want) {
		t.Errorf("%s: PatchZone = %s, %d, want %s, %d", tell, tellZone(got), gotCode, tellZone(want), code)
	}
}

// checkNoPatch holds PatchZone to a code, with nothing beside.
func checkNoPatch(t *testing.T, tell string, z impl.Zone, c impl.Change, code int64) {
	t.Helper()
	checkPatch(t, tell, z, c, impl.Zone{}, code)
}

func TestPatch(t *testing.T) {
	for _, c := range diffCases() {
		old, new := zoneWith(t, 7, "@ NS ns\n"+c.old), zoneWith(t, 8, "@ NS ns\n"+c.new)
		change := impl.Change{Old: soaIn(old), New: soaIn(new), Del: records(t, c.del), Add: records(t, c.add)}
		checkPatch(t, c.old+" to "+c.new, old, change, new, impl.OK)
		slices.Reverse(change.Del)
		slices.Reverse(change.Add)
		checkPatch(t, c.old+" to "+c.new+" in another order", old, change, new, impl.OK)
	}
}

// What the records make by their order: New first, then what the zone had, then what is added.
func TestPatchOrder(t *testing.T) {
	for _, c := range []diffCase{
		// What is added in other letters than what stays.
		{"a MX 5 b", "a MX 5 b", "", "a MX 5 B"},
		{"a A 192.0.2.1", "a A 192.0.2.1\na TXT x", "", "A TXT x"},
		{"a A 192.0.2.1", "a A 192.0.2.1", "", "A A 192.0.2.1"},
		{"", "A TXT x\nA A 192.0.2.1", "", "A TXT x\na A 192.0.2.1"},
		{"", "a TXT x\na A 192.0.2.1", "", "a A 192.0.2.1\nA TXT x"},
		{"a A 192.0.2.1", "A A 192.0.2.1\nA A 192.0.2.2", "a A 192.0.2.1", "A A 192.0.2.2\na A 192.0.2.1"},
		// What is dropped and added again, what is added twice.
		{"a A 192.0.2.1", "a A 192.0.2.1", "a A 192.0.2.1", "a A 192.0.2.1"},
		{"", "a A 192.0.2.1", "", "a A 192.0.2.1\na A 192.0.2.1"},
	} {
		old, new := zoneWith(t, 7, "@ NS ns\n"+c.old), zoneWith(t, 8, "@ NS ns\n"+c.new)
		change := impl.Change{Old: soaIn(old), New: soaIn(new), Del: records(t, c.del), Add: records(t, c.add)}
		checkPatch(t, c.old+" and "+c.add, old, change, new, impl.OK)
	}
	// New is the first of the apex: all its sets have New's letters.
	list := begun(inEx())
	z := mustBuild(t, list, inEx())
	list[0], list[1].Owner = soaOf(nm("Example"), 2), nm("Example")
	checkPatch(t, "New in other letters", z, impl.Change{Old: soaIn(z), New: list[0]}, mustBuild(t, list, inEx()), impl.OK)
}

func TestPatchSerials(t *testing.T) {
	z := zoneWith(t, 7, startZone)
	old := soaIn(z)
	next := func(serial int64) impl.RR { return soaIn(zoneWith(t, serial, startZone)) }
	for serial, code := range map[int64]int64{
		8: impl.OK, 100: impl.OK, 2147483654: impl.OK,
		7: impl.ErrSerial, 6: impl.ErrSerial, 0: impl.ErrSerial, 2147483655: impl.ErrSerial, 4294967295: impl.ErrSerial,
	} {
		want := impl.Zone{}
		if code == impl.OK {
			want = zoneWith(t, serial, startZone)
		}
		checkPatch(t, "to "+itoa(int(serial)), z, impl.Change{Old: old, New: next(serial)}, want, code)
	}
	// Old is not the SOA of the zone, in one field after the other.
	other := func(do func(rr *impl.RR)) impl.RR {
		rr := old
		do(&rr)
		return rr
	}
	for tell, rr := range map[string]impl.RR{
		"no Old":           {},
		"another owner":    other(func(rr *impl.RR) { rr.Owner = inEx("a") }),
		"an owner's case":  other(func(rr *impl.RR) { rr.Owner = capital(rr.Owner) }),
		"another type":     other(func(rr *impl.RR) { rr.Type = 1 }),
		"another class":    other(func(rr *impl.RR) { rr.Class = 3 }),
		"another time":     other(func(rr *impl.RR) { rr.TTL++ }),
		"a datum's case":   other(func(rr *impl.RR) { rr.Data = "\x02NS" + rr.Data[3:] }),
		"another serial":   next(6),
		"New's own serial": next(8),
		"another number":   other(func(rr *impl.RR) { rr.Data = rr.Data[:len(rr.Data)-1] + "\x00" }),
	} {
		checkNoPatch(t, tell, z, impl.Change{Old: rr, New: next(8)}, impl.ErrSerial)
	}
	// New is no SOA, or has no serial.
	checkNoPatch(t, "no New", z, impl.Change{Old: old}, impl.ErrSerial)
	checkNoPatch(t, "New of another type", z, impl.Change{Old: old, New: rrOf(inEx(), 65280, next(8).Data)}, impl.ErrSerial)
	checkNoPatch(t, "New an NS", z, impl.Change{Old: old, New: rrOf(inEx(), impl.TypeNS, inEx("ns"))}, impl.ErrSerial)
	for _, data := range noSOA() {
		checkNoPatch(t, "New with ill data", z, impl.Change{Old: old, New: rrOf(inEx(), impl.TypeSOA, data)}, impl.ErrSerial)
	}
}

func TestPatchData(t *testing.T) {
	z, next := zoneWith(t, 7, startZone), zoneWith(t, 8, startZone)
	from, to := soaIn(z), soaIn(next)
	for _, del := range []string{
		"a A 192.0.2.3", "d A 192.0.2.1", "A A 192.0.2.1", "a 5 A 192.0.2.1", "b.a MX 5 A", "a TXT X", "c CNAME b",
		"a A 192.0.2.1\na A 192.0.2.1", "a A 192.0.2.1\na TXT x\na A 192.0.2.1", "a A 192.0.2.1\na A 192.0.2.3",
		"@ SOA ns admin 7 7200 900 86400 300", "@ SOA ns admin 8 7200 900 86400 300", "a SOA ns admin 7 7200 900 86400 300",
	} {
		checkNoPatch(t, "dropping "+del, z, impl.Change{Old: from, New: to, Del: records(t, del)}, impl.ErrData)
	}
	a := records(t, "a A 192.0.2.1")[0]
	checkNoPatch(t, "dropping one of another class", z, impl.Change{Old: from, New: to, Del: []impl.RR{inClass(a, 254)}}, impl.ErrData)
	checkNoPatch(t, "dropping nothing", z, impl.Change{Old: from, New: to, Del: make([]impl.RR, 1)}, impl.ErrData)
	for _, add := range []impl.RR{from, to, soaOf(inEx("a"), 9), soaOf(nm("com"), 9), inClass(to, 3), rrOf("", impl.TypeSOA, "")} {
		checkNoPatch(t, "adding an SOA", z, impl.Change{Old: from, New: to, Add: []impl.RR{add}}, impl.ErrData)
		checkNoPatch(t, "adding an SOA behind", z, impl.Change{Old: from, New: to, Add: []impl.RR{rrOf("", 0, ""), add}}, impl.ErrData)
	}
}

func TestPatchToNoZone(t *testing.T) {
	z := zoneWith(t, 7, startZone)
	from, to := soaIn(z), soaIn(zoneWith(t, 8, startZone))
	for _, c := range []struct {
		del, add string
		code     int64
	}{
		{"@ NS ns", "", impl.ErrNS},
		{"@ NS ns", "a NS ns", impl.ErrNS},
		{"", "com. A 192.0.2.1", impl.ErrZone},
		{"", "a 5 A 192.0.2.3", impl.ErrMixed},
		{"a A 192.0.2.1", "a 5 A 192.0.2.1", impl.ErrMixed},
		{"", "a CNAME c", impl.ErrSingle},
		{"", "c CNAME b", impl.ErrSingle},
		{"", "c A 192.0.2.1", impl.ErrSingle},
		{"", "a DNAME c", impl.ErrBelow},
		{"", "* NS ns", impl.ErrWild},
		{"", "*.a DNAME c", impl.ErrWild},
		{"", "com. A 192.0.2.1\na 5 A 192.0.2.3", impl.ErrZone},
	} {
		change := impl.Change{Old: from, New: to, Del: records(t, c.del), Add: records(t, c.add)}
		checkNoPatch(t, c.del+" for "+c.add, z, change, c.code)
	}
	for tell, c := range map[string]struct {
		rr   impl.RR
		code int64
	}{
		"no owner":      {rrOf("", 1, "abcd"), impl.ErrName},
		"another class": {inClass(rrOf(inEx("z"), 1, "abcd"), 3), impl.ErrClass},
		"a long time":   {inTime(rrOf(inEx("z"), 1, "abcd"), 2147483648), impl.ErrTTL},
		"a meta type":   {rrOf(inEx("z"), 255, "abcd"), impl.ErrType},
		"ill data":      {rrOf(inEx("z"), 1, "abc"), impl.ErrData},
		"empty data":    {rrOf(inEx("z"), 1, ""), impl.ErrData},
	} {
		checkNoPatch(t, "adding "+tell, z, impl.Change{Old: from, New: to, Add: []impl.RR{c.rr}}, c.code)
	}
	for tell, c := range map[string]struct {
		rr   impl.RR
		code int64
	}{
		"no owner":      {rrOf("", 6, to.Data), impl.ErrName},
		"another class": {inClass(to, 3), impl.ErrClass},
		"a long time":   {inTime(to, 2147483648), impl.ErrTTL},
		"another zone":  {rrOf(nm("com"), 6, to.Data), impl.ErrZone},
		"no apex":       {rrOf(inEx("a"), 6, to.Data), impl.ErrSOA},
	} {
		checkNoPatch(t, "New with "+tell, z, impl.Change{Old: from, New: c.rr}, c.code)
	}
}

func TestPatchNotValid(t *testing.T) {
	z, next := zoneWith(t, 7, startZone), zoneWith(t, 8, startZone)
	change := impl.Change{Old: soaIn(z), New: soaIn(next)}
	for tell, ill := range noZones(z) {
		checkNoPatch(t, tell, ill, change, impl.ErrForm)
		checkNoPatch(t, tell+" and no change", ill, impl.Change{}, impl.ErrForm)
	}
	a := records(t, "a A 192.0.2.1")[0]
	for n, code := range map[int]int64{500: impl.ErrData, 501: impl.ErrForm, 100000: impl.ErrForm} {
		change.Del = slices.Repeat([]impl.RR{a}, n)
		checkNoPatch(t, "dropping "+itoa(n), z, change, code)
	}
	change.Del = nil
	for n, want := range map[int]impl.Zone{493: next, 494: {}, 500: {}} {
		code := int64(impl.ErrCount)
		if n == 493 {
			code = impl.OK
		}
		// Records that come again count, until the zone is built.
		change.Add = slices.Repeat([]impl.RR{a}, n)
		checkPatch(t, "adding "+itoa(n), z, change, want, code)
	}
	change.Add = slices.Repeat([]impl.RR{a}, 501)
	checkNoPatch(t, "adding 501", z, change, impl.ErrForm)
}

// Where several are not met the first in the text is told.
func TestPatchFirstFault(t *testing.T) {
	z, next := zoneWith(t, 7, startZone), zoneWith(t, 8, startZone)
	a, soa := records(t, "a A 192.0.2.1")[0], soaIn(next)
	many := slices.Repeat([]impl.RR{soa}, 501)
	mixed := inTime(a, 5)
	for i, c := range []struct {
		change impl.Change
		code   int64
	}{
		{impl.Change{Del: many}, impl.ErrForm},
		{impl.Change{Old: soaIn(z), New: soa, Del: []impl.RR{soa}, Add: many}, impl.ErrForm},
		{impl.Change{Old: soa, New: soa, Del: []impl.RR{soa}, Add: []impl.RR{soa}}, impl.ErrSerial},
		{impl.Change{Old: soaIn(z), New: a, Del: []impl.RR{soa}, Add: []impl.RR{mixed}}, impl.ErrSerial},
		{impl.Change{Old: soaIn(z), New: soa, Del: []impl.RR{mixed}, Add: []impl.RR{mixed}}, impl.ErrData},
		{impl.Change{Old: soaIn(z), New: soa, Del: []impl.RR{a}, Add: []impl.RR{mixed, soa}}, impl.ErrData},
		{impl.Change{Old: soaIn(z), New: soa, Del: []impl.RR{a}, Add: []impl.RR{mixed}}, impl.ErrMixed},
	} {
		checkNoPatch(t, "case "+itoa(i), z, c.change, c.code)
	}
	checkNoPatch(t, "no zone", impl.Zone{}, impl.Change{Del: many}, impl.ErrForm)
}

// spoilChange spoils a change of a zone.
func spoilChange(r *rand.Rand, z impl.Zone, c *impl.Change) {
	lists := []*[]impl.RR{&c.Del, &c.Add}
	list := lists[r.Intn(2)]
	switch r.Intn(9) {
	case 0:
		c.Old = inLetters(r, c.Old)
	case 1:
		c.New = soaOf(z.Apex, (serialOf(z)+[]int64{0, 1, 2147483648}[r.Intn(3)])%4294967296)
	case 2:
		spoilAsk(r, &c.New)
	case 3:
		*list = append(*list, knownIn(r, z))
	case 4:
		*list = append(*list, recordIn(r, z.Apex))
	case 5:
		*list = append(*list, soaOf(ownerIn(r, z.Apex, 1), 9))
	case 6:
		c.Del, c.Add = c.Add, c.Del
	default:
		if len(*list) > 0 {
			at := r.Intn(len(*list))
			switch r.Intn(4) {
			case 0:
				*list = append(*list, (*list)[at])
			case 1:
				*list = slices.Delete(*list, at, at+1)
			case 2:
				(*list)[at] = inLetters(r, (*list)[at])
			case 3:
				spoilAsk(r, &(*list)[at])
			}
		}
	}
}

func TestPatchAnyZone(t *testing.T) {
	r := rand.New(rand.NewSource(132))
	met := map[int64]int{}
	for n := range 3000 {
		z := changeZone(t, r, apexes()[n%3], 10)
		c, _ := diffOf(z, laterZone(t, r, z, 8))
		if n%3 > 0 {
			spoilChange(r, z, &c)
		}
		if n%50 == 0 {
			bendZone(r, &z)
		}
		want, code := patchOf(z, c)
		checkPatch(t, tellZone(z)+" "+tellChange(c), z, c, want, code)
		met[code]++
	}
	for code, least := range map[int64]int{impl.OK: 1000, impl.ErrForm: 20, impl.ErrSerial: 200, impl.ErrData: 200, impl.ErrMixed: 5, impl.ErrSingle: 5, impl.ErrBelow: 5} {
		if met[code] < least {
			t.Errorf("the codes met are %v", met)
		}
	}
}
