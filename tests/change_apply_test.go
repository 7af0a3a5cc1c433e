package tests

import (
	"fmt"
	"math/rand"
	"slices"
	"testing"

	"loop.example/s01858/impl"
)

func checkApply(t *testing.T, tell string, z impl.Zone, list []impl.RR, want impl.Zone) {
	t.Helper()
	got, code := impl.ApplyChanges(z, list)
	if code != impl.OK || !sameZone(got, want) {
		t.Errorf("%s: ApplyChanges = %s, %d, want %s", tell, tellZone(got), code, tellZone(want))
	}
}

func checkNoChange(t *testing.T, tell string, z impl.Zone, list []impl.RR) {
	t.Helper()
	if got, code := impl.ApplyChanges(z, list); code != impl.ErrForm || !sameZone(got, impl.Zone{}) {
		t.Errorf("%s: ApplyChanges = %s, %d", tell, tellZone(got), code)
	}
}

// applyCase is changes of a zone with the serial 7 and an NS: the records ahead and behind, and the serial behind.
type applyCase struct {
	ahead, changes string
	serial         int64
	behind         string
}

func checkCases(t *testing.T, cases []applyCase) {
	t.Helper()
	for _, c := range cases {
		z := zoneWith(t, 7, "@ NS ns\n"+c.ahead)
		checkApply(t, fmt.Sprintf("%q of %q", c.changes, c.ahead), z, asks(t, c.changes), zoneWith(t, c.serial, "@ NS ns\n"+c.behind))
	}
}

func TestApplyAdditions(t *testing.T) {
	checkCases(t, []applyCase{
		{"", "", 7, ""},
		{"", "+a A 192.0.2.1", 8, "a A 192.0.2.1"},
		{"", "+A.B A 192.0.2.1; +a.b A 192.0.2.2; +a.B TXT x", 8, "A.B A 192.0.2.1\nA.B A 192.0.2.2\nA.B TXT x"},
		{"a A 192.0.2.1", "+a A 192.0.2.2", 8, "a A 192.0.2.1\na A 192.0.2.2"},
		{"a A 192.0.2.2", "+a A 192.0.2.1", 8, "a A 192.0.2.1\na A 192.0.2.2"},
		{"a A 192.0.2.1", "+A TXT x", 8, "a A 192.0.2.1\na TXT x"},
		{"a A 192.0.2.1", "+b.a A 192.0.2.2", 8, "a A 192.0.2.1\nb.a A 192.0.2.2"},
		// The time is the set's; that of the owner's other sets stays.
		{"a A 192.0.2.1\na TXT x", "+a 5 A 192.0.2.2", 8, "a 5 A 192.0.2.1\na 5 A 192.0.2.2\na TXT x"},
		{"a A 192.0.2.1\na A 192.0.2.2", "+a 0 A 192.0.2.2", 8, "a 0 A 192.0.2.1\na 0 A 192.0.2.2"},
		{"a A 192.0.2.1", "+a 2147483647 A 192.0.2.1", 8, "a 2147483647 A 192.0.2.1"},
		{"a A 192.0.2.1", "+a 5 A 192.0.2.1; +a 6 A 192.0.2.2", 8, "a 6 A 192.0.2.1\na 6 A 192.0.2.2"},
		// A datum that is there: as it was, or in other letters.
		{"a A 192.0.2.1", "+a A 192.0.2.1", 7, "a A 192.0.2.1"},
		{"a A 192.0.2.1", "+A A 192.0.2.1", 7, "a A 192.0.2.1"},
		{"a MX 5 b\na MX 6 c", "+a MX 5 B", 8, "a MX 5 B\na MX 6 c"},
		{"a MX 5 b\na MX 6 c", "+a MX 5 B; +a MX 5 b", 7, "a MX 5 b\na MX 6 c"},
		{"a MX 5 b", "+a 9 MX 5 B", 8, "a 9 MX 5 B"},
		{"a TXT x", "+a TXT X", 8, "a TXT x\na TXT X"},
		{"", "+@ NS b", 8, "@ NS b"},
		{"", "+@ A 192.0.2.1; +EXAMPLE. TXT x", 8, "@ A 192.0.2.1\n@ TXT x"},
		{"", "+@ TYPE65280 \\# 0", 8, "@ TYPE65280 \\# 0"},
		{"", "+* A 192.0.2.1", 8, "* A 192.0.2.1"},
		{"", "+sub NS b; +b.sub A 192.0.2.1", 8, "sub NS b\nb.sub A 192.0.2.1"},
	})
	checkApply(t, "an NS in other letters", zoneWith(t, 7, "@ NS ns"), asks(t, "+@ NS NS"), zoneWith(t, 8, "@ NS NS"))
	checkApply(t, "an NS's time", zoneWith(t, 7, "@ NS ns"), asks(t, "+@ 5 NS b"), zoneWith(t, 8, "@ 5 NS ns\n@ 5 NS b"))
}

func TestApplyAliases(t *testing.T) {
	checkCases(t, []applyCase{
		{"", "+a CNAME b", 8, "a CNAME b"},
		{"a CNAME b", "+a CNAME c", 8, "a CNAME c"},
		{"a CNAME b", "+a CNAME B", 8, "a CNAME B"},
		{"a CNAME b", "+A CNAME c", 8, "a CNAME c"},
		{"a CNAME b", "+a CNAME b", 7, "a CNAME b"},
		{"a CNAME b", "+a 5 CNAME c", 8, "a 5 CNAME c"},
		{"a CNAME b", "+a 5 CNAME b", 8, "a 5 CNAME b"},
		{"a CNAME b", "+a CNAME c; +a CNAME b", 7, "a CNAME b"},
		{"", "+a DNAME b", 8, "a DNAME b"},
		{"a DNAME b\na A 192.0.2.1", "+A DNAME c", 8, "a DNAME c\na A 192.0.2.1"},
		{"", "+@ DNAME b.", 8, "@ DNAME b."},
		// What may not stand beside an alias, and what may.
		{"a CNAME b", "+a A 192.0.2.1", 7, "a CNAME b"},
		{"a CNAME b", "+A TXT x", 7, "a CNAME b"},
		{"a CNAME b", "+a DNAME c", 7, "a CNAME b"},
		{"a CNAME b", "+a NS c", 7, "a CNAME b"},
		{"a CNAME b", "+a NSEC b CNAME", 8, "a CNAME b\na NSEC b CNAME"},
		{"a NSEC b CNAME", "+A CNAME b", 8, "a NSEC b CNAME\na CNAME b"},
		{"a A 192.0.2.1", "+a CNAME b", 7, "a A 192.0.2.1"},
		{"a A 192.0.2.1\na NSEC b A", "+a CNAME b", 7, "a A 192.0.2.1\na NSEC b A"},
		{"a NSEC b A", "+a A 192.0.2.1", 8, "a A 192.0.2.1\na NSEC b A"},
		{"a CNAME b\na NSEC b CNAME", "+a A 192.0.2.1; +a CNAME c", 8, "a CNAME c\na NSEC b CNAME"},
		{"", "+@ CNAME b", 7, ""},
		{"a CNAME b", "+b.a A 192.0.2.1", 8, "a CNAME b\nb.a A 192.0.2.1"},
		{"a CNAME b", "-a; +a A 192.0.2.1", 8, "a A 192.0.2.1"},
		{"a CNAME b", "-a CNAME; +A A 192.0.2.1", 8, "A A 192.0.2.1"},
		{"a CNAME b", "+a A 192.0.2.1; -a", 8, ""},
	})
}

func TestApplyTailsAndWilds(t *testing.T) {
	checkCases(t, []applyCase{
		// Nothing below a DNAME.
		{"a DNAME b", "+x.a A 192.0.2.1", 7, "a DNAME b"},
		{"a DNAME b", "+x.y.A TXT x", 7, "a DNAME b"},
		{"a DNAME b", "+x.y.A NSEC b A", 7, "a DNAME b"},
		{"a DNAME b", "+xa A 192.0.2.1", 8, "a DNAME b\nxa A 192.0.2.1"},
		{"a DNAME b", "+a A 192.0.2.1", 8, "a DNAME b\na A 192.0.2.1"},
		{"a DNAME b", "+x.a A 192.0.2.1; -a; +x.a A 192.0.2.2", 8, "x.a A 192.0.2.2"},
		// No DNAME above an owner.
		{"x.a A 192.0.2.1", "+a DNAME b", 7, "x.a A 192.0.2.1"},
		{"x.y.a A 192.0.2.1", "+A DNAME b", 7, "x.y.a A 192.0.2.1"},
		{"x.a A 192.0.2.1", "-x.a; +a DNAME b", 8, "a DNAME b"},
		{"x.a A 192.0.2.1", "-x.a A; +a DNAME b", 8, "a DNAME b"},
		{"x.a A 192.0.2.1", "-x.a A 192.0.2.1; +a DNAME b", 8, "a DNAME b"},
		{"xa A 192.0.2.1", "+a DNAME b", 8, "xa A 192.0.2.1\na DNAME b"},
		{"a A 192.0.2.1", "+@ DNAME b.", 7, "a A 192.0.2.1"},
		{"@ DNAME b.", "+a A 192.0.2.1", 7, "@ DNAME b."},
		// No wildcard has NS or DNAME.
		{"", "+* NS b", 7, ""},
		{"", "+*.a DNAME b", 7, ""},
		{"", "+*.a CNAME b", 8, "*.a CNAME b"},
		{"", "+a.* NS b", 8, "a.* NS b"},
		{"", "+** DNAME b", 8, "** DNAME b"},
		// No SOA elsewhere.
		{"", "+a SOA ns admin 9 7200 900 86400 300", 7, ""},
		{"a A 192.0.2.1", "+a SOA ns admin 9 7200 900 86400 300", 7, "a A 192.0.2.1"},
		// One that does not count bars no other.
		{"a CNAME b", "+a A 192.0.2.1; +c A 192.0.2.1", 8, "a CNAME b\nc A 192.0.2.1"},
	})
}

func TestApplyDeletions(t *testing.T) {
	two := "a A 192.0.2.1\na A 192.0.2.2\na TXT x"
	checkCases(t, []applyCase{
		{two, "-a", 8, ""},
		{two, "-A", 8, ""},
		{two, "-b", 7, two},
		{two + "\nb.a TXT x", "-a", 8, "b.a TXT x"},
		{two, "-a A", 8, "a TXT x"},
		{two, "-A TXT", 8, "a A 192.0.2.1\na A 192.0.2.2"},
		{two, "-a MX", 7, two},
		{two, "-b A", 7, two},
		{two, "-a A 192.0.2.1", 8, "a A 192.0.2.2\na TXT x"},
		{two, "-a A 192.0.2.3", 7, two},
		{two, "-b A 192.0.2.1", 7, two},
		{two, "-a TXT X", 7, two},
		{two, "-a A 192.0.2.1; -a A 192.0.2.1; -a A 192.0.2.2", 8, "a TXT x"},
		{two, "-A A 192.0.2.1; -a A 192.0.2.2; -a TXT x", 8, ""},
		{"a MX 5 b\na MX 5 c", "-a MX 5 B", 8, "a MX 5 c"},
		{"a MX 5 b\na MX 5 c", "-a MX 6 b", 7, "a MX 5 b\na MX 5 c"},
		{"a TYPE65280 \\# 0\na TYPE65280 \\# 1 00", "-a TYPE65280 \\# 0", 8, "a TYPE65280 \\# 1 00"},
		{"a CNAME b", "-a CNAME B", 8, ""},
		{"sub NS b", "-sub NS b", 8, ""},
		{"sub NS b", "-sub NS", 8, ""},
		// What an apex must have stays.
		{"@ A 192.0.2.1\n@ MX 5 a", "-@", 8, ""},
		{"@ A 192.0.2.1\n@ MX 5 a", "-EXAMPLE. A", 8, "@ MX 5 a"},
		{"@ A 192.0.2.1\n@ A 192.0.2.2", "-@ A 192.0.2.1", 8, "@ A 192.0.2.2"},
		{"@ A 192.0.2.1", "-@ A 192.0.2.1", 8, ""},
		{"", "-@", 7, ""},
		{"", "-@ SOA", 7, ""},
		{"", "-@ NS", 7, ""},
		{"@ NS b", "-@ NS", 7, "@ NS b"},
		{"@ NS b", "-@; -@ SOA", 7, "@ NS b"},
		{"", "-@ NS ns", 7, ""},
		{"", "-EXAMPLE. NS NS", 7, ""},
		{"@ NS b", "-@ NS B", 8, ""},
		{"@ NS b", "-@ NS b; -@ NS ns", 8, ""},
		{"", "-@ SOA ns admin 7 7200 900 86400 300", 7, ""},
		{"", "-@ SOA ns admin 8 7200 900 86400 300", 7, ""},
	})
}

func TestApplyInTurn(t *testing.T) {
	checkCases(t, []applyCase{
		// A later change undoes an earlier one: the zone comes back to what it was.
		{"", "+a A 192.0.2.1; -a", 7, ""},
		{"", "+a A 192.0.2.1; -a A", 7, ""},
		{"", "+a A 192.0.2.1; -a A 192.0.2.1", 7, ""},
		{"a A 192.0.2.1", "-a; +a A 192.0.2.1", 7, "a A 192.0.2.1"},
		{"a A 192.0.2.1\na A 192.0.2.2", "-a A 192.0.2.2; +a A 192.0.2.2", 7, "a A 192.0.2.1\na A 192.0.2.2"},
		{"a A 192.0.2.1", "+a 5 A 192.0.2.2; -a A 192.0.2.2; +a A 192.0.2.1", 7, "a A 192.0.2.1"},
		{"@ NS b", "-@ NS ns; +@ NS ns", 7, "@ NS b"},
		// But not in all.
		{"a A 192.0.2.1", "+a 5 A 192.0.2.2; -a A 192.0.2.2", 8, "a 5 A 192.0.2.1"},
		{"a A 192.0.2.1", "-a; +A A 192.0.2.1", 8, "A A 192.0.2.1"},
		{"a A 192.0.2.1\na TXT x", "-a A; +A A 192.0.2.1", 7, "a A 192.0.2.1\na TXT x"},
		{"a A 192.0.2.1\na TXT x", "-a A 192.0.2.1; -a TXT x; +A TXT x; +a A 192.0.2.1", 8, "A A 192.0.2.1\nA TXT x"},
		{"a A 192.0.2.1", "-a A 192.0.2.1; -a; +a A 192.0.2.2; +b A 192.0.2.1", 8, "a A 192.0.2.2\nb A 192.0.2.1"},
	})
	// The last NS of the apex goes once there is another.
	z := zoneWith(t, 7, "@ NS ns")
	checkApply(t, "another NS", z, asks(t, "+@ NS b; -@ NS ns"), zoneWith(t, 8, "@ NS b"))
	checkApply(t, "another NS too late", z, asks(t, "-@ NS ns; +@ NS b"), zoneWith(t, 8, "@ NS ns\n@ NS b"))
}

func TestApplySerials(t *testing.T) {
	soa := func(mname string, serial int64) string {
		return fmt.Sprintf("+@ SOA %s admin %d 7200 900 86400 300;", mname, serial)
	}
	const add = "+a A 192.0.2.1;"
	for _, c := range []struct {
		old     int64
		changes string
		want    int64
		isNew   bool
	}{
		{7, soa("ns", 8), 8, false},
		{7, soa("ns", 100), 100, false},
		{7, soa("ns", 7), 7, false},
		{7, soa("NS", 7), 7, false},
		{7, soa("ns", 6), 7, false},
		{7, soa("ns", 2147483654), 2147483654, false},
		{7, soa("ns", 2147483655), 7, false},
		{7, add + soa("ns", 20), 20, true},
		{7, soa("ns", 20) + add, 20, true},
		{7, add + soa("ns", 6), 8, true},
		{7, add + soa("ns", 8) + soa("ns", 9), 9, true},
		{7, add + soa("ns", 9) + soa("ns", 8), 9, true},
		{0, add, 1, true},
		{0, soa("ns", 2147483647), 2147483647, false},
		{0, soa("ns", 2147483648), 0, false},
		{0, soa("ns", 4294967295), 0, false},
		{4294967294, add, 4294967295, true},
		{4294967295, add, 1, true},
		{4294967295, soa("ns", 0), 0, false},
		{4294967295, soa("ns", 0) + add, 0, true},
		{4294967295, soa("ns", 4294967294) + add, 1, true},
		// Once round and further: the serial does not come behind that of old any more.
		{0, soa("ns", 2147483647) + soa("ns", 4294967294), 1, false},
		{0, soa("ns", 2147483647) + soa("ns", 4294967294) + soa("ns", 0), 0, false},
		{0, soa("ns", 2147483647) + soa("ns", 4294967294) + soa("ns", 0) + add, 1, true},
		{0, soa("ns", 2147483647) + soa("ns", 4294967294) + soa("ns", 5), 5, false},
	} {
		behind := "@ NS ns\n"
		if c.isNew {
			behind += "a A 192.0.2.1\n"
		}
		z := zoneWith(t, c.old, "@ NS ns\n")
		checkApply(t, fmt.Sprintf("%q of serial %d", c.changes, c.old), z, asks(t, c.changes), zoneWith(t, c.want, behind))
	}
}

func TestApplySOA(t *testing.T) {
	z := zoneWith(t, 7, "@ NS ns\n")
	full := zoneText(t, "EXAMPLE. 5 SOA B C 9 1 2 3 4\n@ 3600 NS ns")
	full.Sets[0].Owner, full.Sets[1].Owner = inEx(), inEx()
	checkApply(t, "all of an SOA", z, asks(t, "+EXAMPLE. 5 SOA B C 9 1 2 3 4"), full)
	// An SOA that has come round to the old serial, but is another one: its serial is raised.
	round := []impl.RR{soaOf(inEx(), 2147483654), soaOf(inEx(), 4294967295), inTime(soaOf(inEx(), 7), 5)}
	want := mustBuild(t, []impl.RR{inTime(soaOf(inEx(), 8), 5), rrOf(inEx(), impl.TypeNS, inEx("ns"))}, inEx())
	checkApply(t, "once round in another form", z, round, want)
}

func TestApplyRoom(t *testing.T) {
	list := begun(inEx())
	for n := range 498 {
		list = append(list, rrOf(inEx("h"+itoa(n/3)), impl.TypeTXT, st(itoa(n))))
	}
	z := mustBuild(t, list, inEx())
	for _, changes := range []string{"+new A 192.0.2.1", "+h0 TXT x", "+h0 A 192.0.2.1", "+new CNAME a", "+new DNAME a", "+@ NS b"} {
		checkApply(t, changes+" in a full zone", z, asks(t, changes), z)
	}
	behind := func(more ...impl.RR) impl.Zone {
		return mustBuild(t, append([]impl.RR{soaOf(inEx(), 2)}, append(more, list[1:]...)...), inEx())
	}
	drop := impl.RR{Owner: inEx("h165"), Type: impl.TypeTXT, Class: impl.ClassNONE, Data: st("497")}
	list = list[:499]
	want := behind(rrOf(inEx("new"), impl.TypeA, "\xc0\x00\x02\x01"))
	checkApply(t, "one out and one in", z, append([]impl.RR{drop}, asks(t, "+new A 192.0.2.1; +new A 192.0.2.2")...), want)
	checkApply(t, "one in and one out", z, append(asks(t, "+new A 192.0.2.1"), drop), behind())
	// What takes another's place needs no room.
	z = want
	times := asks(t, "+new 5 A 192.0.2.1; +new 5 A 192.0.2.2")
	want = mustBuild(t, append([]impl.RR{soaOf(inEx(), 3), times[0]}, list[1:]...), inEx())
	checkApply(t, "a datum again", z, times, want)
	alias := mustBuild(t, append([]impl.RR{list[0], rrOf(inEx("z"), impl.TypeCNAME, root)}, list[1:]...), inEx())
	want = mustBuild(t, append([]impl.RR{soaOf(inEx(), 2), rrOf(inEx("z"), impl.TypeCNAME, inEx())}, list[1:]...), inEx())
	checkApply(t, "an alias again", alias, asks(t, "+z CNAME example.; +y CNAME example."), want)
	want = mustBuild(t, append([]impl.RR{soaOf(inEx(), 9), rrOf(inEx("z"), impl.TypeCNAME, root)}, list[1:]...), inEx())
	checkApply(t, "an SOA again", alias, []impl.RR{soaOf(inEx(), 9)}, want)
}

func TestApplyMost(t *testing.T) {
	z := zoneWith(t, 7, "@ NS ns\n")
	var list []impl.RR
	for n := range 400 {
		list = append(list, rrOf(inEx("h"+itoa(n)), impl.TypeA, be(int64(n), 4)))
	}
	want := mustBuild(t, append([]impl.RR{recordsAt(zoneWith(t, 8, "@ NS ns\n"), inEx(), impl.TypeSOA)[0], rrOf(inEx(), impl.TypeNS, inEx("ns"))}, list...), inEx())
	checkApply(t, "MaxEntries additions", z, list, want)
	checkNoChange(t, "one more", z, append(list, list[0]))
	// A second list fills the zone up to the last place.
	more := slices.Clone(list)
	for i := range more {
		more[i].Owner = inEx("m" + itoa(i))
	}
	full, _ := impl.ApplyChanges(want, more)
	if got := impl.ZoneRecords(full); len(got) != 500 || impl.CheckZone(full) != impl.OK {
		t.Errorf("a full zone has %d records", len(got))
	}
	if _, ok := impl.FindSet(full, inEx("m97"), impl.TypeA); !ok {
		t.Errorf("the last that had room is not found")
	}
	if _, ok := impl.FindSet(full, inEx("m98"), impl.TypeA); ok {
		t.Errorf("one more than had room is found")
	}
}

func TestApplyApexLetters(t *testing.T) {
	list := []impl.RR{soaOf(nm("EXAMPLE"), 7), rrOf(nm("example"), impl.TypeNS, nm("ns"))}
	z := mustBuild(t, list, nm("Example"))
	got, code := impl.ApplyChanges(z, []impl.RR{rrOf(nm("examplE"), impl.TypeA, "abcd"), rrOf(nm("a", "exAMPLE"), impl.TypeA, "abcd")})
	list[0] = soaOf(nm("EXAMPLE"), 8)
	want := mustBuild(t, append(list, rrOf(nm("EXAMPLE"), impl.TypeA, "abcd"), rrOf(nm("a", "exAMPLE"), impl.TypeA, "abcd")), nm("Example"))
	if code != impl.OK || !sameZone(got, want) {
		t.Errorf("ApplyChanges = %s, %d, want %s", tellZone(got), code, tellZone(want))
	}
	list[0] = soaOf(nm("EXAMPLE"), 9)
	drops := []impl.RR{{Owner: nm("A", "example"), Type: 255, Class: 255}, {Owner: nm("exAmple"), Type: 255, Class: 255}}
	checkApply(t, "dropped in other letters", got, drops, mustBuild(t, list, nm("Example")))
}

func TestApplyRoot(t *testing.T) {
	z := mustBuild(t, begun(root), root)
	checkApply(t, "under the root", z, []impl.RR{rrOf(nm("a"), impl.TypeA, "abcd")},
		mustBuild(t, []impl.RR{soaOf(root, 2), rrOf(root, impl.TypeNS, nm("ns")), rrOf(nm("a"), impl.TypeA, "abcd")}, root))
	checkApply(t, "all of the root", z, []impl.RR{{Owner: root, Type: 255, Class: 255}}, z)
}

func TestApplyNotValid(t *testing.T) {
	z := zoneWith(t, 7, changedZone)
	for tell, list := range unsound() {
		checkNoChange(t, tell, z, list)
	}
	for rr, want := range formCases() {
		if want != impl.NoError {
			checkNoChange(t, tellRecords([]impl.RR{rr}), z, []impl.RR{rr})
			checkNoChange(t, tellRecords([]impl.RR{rr})+" behind", z, append(asks(t, "+a A 192.0.2.1"), rr))
		}
	}
	for tell, ill := range map[string]impl.Zone{"no zone": {}, "no sets": {Apex: inEx()}, "no SOA": {Apex: z.Apex, Sets: z.Sets[1:]}} {
		checkNoChange(t, tell, ill, nil)
		checkNoChange(t, tell, ill, asks(t, "+a A 192.0.2.1"))
	}
}

func TestApplyAnyZone(t *testing.T) {
	r := rand.New(rand.NewSource(114))
	same, behind := 0, 0
	for n := range 3000 {
		z := changeZone(t, r, apexes()[n%3], 10)
		list := changesIn(r, z, 6)
		if n%20 == 0 && len(list) > 0 {
			spoilAsk(r, &list[r.Intn(len(list))])
		}
		if n%50 == 0 {
			bendZone(r, &z)
		}
		want, code := appliedTo(z, list)
		got, gotCode := impl.ApplyChanges(z, list)
		if gotCode != code || !sameZone(got, want) {
			t.Fatalf("ApplyChanges(%s, %s) = %s, %d, want %s, %d", tellZone(z), tellRecords(list), tellZone(got), gotCode, tellZone(want), code)
		}
		if code == impl.OK && len(list) > 0 {
			if sameZone(z, got) {
				same++
			} else {
				behind++
			}
		}
	}
	if same < 250 || behind < 1000 {
		t.Errorf("%d zones stayed, %d are other ones", same, behind)
	}
}
