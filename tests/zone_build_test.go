package tests

import (
	"math"
	"math/rand"
	"slices"
	"strings"
	"testing"

	"loop.example/s01858/impl"
)

func TestNodeKinds(t *testing.T) {
	kinds := []int64{impl.NodeOutside, impl.NodeAbsent, impl.NodeEmpty, impl.NodeData, impl.NodeCut, impl.NodeBelow}
	if !slices.Equal(kinds, []int64{0, 1, 2, 3, 4, 5}) {
		t.Errorf("the kinds of nodes are %d", kinds)
	}
}

// The document's zone, set by set.
func TestBuildZoneExample(t *testing.T) {
	list := exampleRecords()
	want := impl.Zone{Apex: inEx()}
	for _, i := range []int{1, 0, 9, 2, 8, 6, 7, 5, 4, 3} {
		rr := list[i]
		want.Sets = append(want.Sets, impl.Set{Owner: rr.Owner, Type: rr.Type, TTL: 3600, Data: []string{rr.Data}})
	}
	if got := mustBuild(t, list, inEx()); !sameZone(got, want) {
		t.Errorf("BuildZone = %s, want %s", tellZone(got), tellZone(want))
	}
}

// Zones at the edges: of two records, with the root as apex, with an apex of 255 bytes.
func TestBuildZoneSmall(t *testing.T) {
	for _, apex := range []string{root, nm("a"), nameOf(255), nm(times(127, "a")...), nm("\x00\xff")} {
		list := begun(apex)
		want := impl.Zone{Apex: apex, Sets: []impl.Set{
			{Owner: apex, Type: 2, TTL: 3600, Data: []string{list[1].Data}},
			{Owner: apex, Type: 6, TTL: 3600, Data: []string{list[0].Data}},
		}}
		if got := mustBuild(t, list, apex); !sameZone(got, want) || impl.CheckZone(got) != impl.OK {
			t.Errorf("BuildZone(%s) = %s, %d", tellRecords(list), tellZone(got), impl.CheckZone(got))
		}
	}
	z := mustBuild(t, begun(root, aRecord(nm("com"), 3600), aRecord(nm("a", "com"), 0)), root)
	if len(z.Sets) != 4 || z.Sets[2].Owner != nm("com") || z.Sets[3].Owner != nm("a", "com") || z.Sets[3].TTL != 0 {
		t.Errorf("BuildZone below the root = %s", tellZone(z))
	}
}

// Owners rise, of one owner types, of one type data, however they came.
func TestBuildZoneOrder(t *testing.T) {
	apex := inEx()
	list := begun(apex,
		rrOf(inEx("b"), 65535, ""),
		rrOf(inEx("b"), 257, "\x00\x01aB"),
		rrOf(inEx("b"), impl.TypeA, "bbbb"),
		rrOf(inEx("z", "a"), impl.TypeA, "aaaa"),
		rrOf(inEx("b"), impl.TypeA, "a\xffaa"),
		rrOf(inEx("a"), impl.TypeA, "Zaaa"),
		rrOf(inEx("a"), impl.TypeA, "aaaa"),
		rrOf(inEx("\xe9"), impl.TypeA, "aaaa"),
		rrOf(inEx("b"), impl.TypeMX, "\x00\x02"+nm("A")),
		rrOf(inEx("b"), impl.TypeMX, "\x00\x01"+nm("b")),
		rrOf(inEx("b"), impl.TypeMX, "\x00\x02"+nm("B")),
		rrOf(inEx("b"), 99, "xy"),
		rrOf(inEx("b"), 99, "x"),
		rrOf(inEx("b"), 99, ""),
		rrOf(inEx("b"), 99, "X"),
	)
	set := func(owner string, rtype int64, data ...string) impl.Set {
		return impl.Set{Owner: owner, Type: rtype, TTL: 3600, Data: data}
	}
	want := impl.Zone{Apex: apex, Sets: []impl.Set{
		set(apex, 2, nm("ns")), set(apex, 6, list[0].Data), set(inEx("a"), 1, "Zaaa", "aaaa"), set(inEx("z", "a"), 1, "aaaa"),
		set(inEx("b"), 1, "a\xffaa", "bbbb"), set(inEx("b"), 15, "\x00\x01"+nm("b"), "\x00\x02"+nm("A"), "\x00\x02"+nm("B")),
		set(inEx("b"), 99, "", "X", "x", "xy"), set(inEx("b"), 257, "\x00\x01aB"), set(inEx("b"), 65535, ""), set(inEx("\xe9"), 1, "aaaa"),
	}}
	if got := mustBuild(t, list, apex); !sameZone(got, want) {
		t.Errorf("BuildZone = %s, want %s", tellZone(got), tellZone(want))
	}
}

// Letters: the apex's as given, an owner's as in its first record of whatever type, data's as in the first one that is
// the same folded.
func TestBuildZoneLetters(t *testing.T) {
	list := []impl.RR{
		rrOf(nm("eXAMPLE"), impl.TypeNS, nm("Ns")),
		rrOf(nm("B", "example"), 99, "any"),
		rrOf(nm("b", "Example"), impl.TypeMX, "\x00\x01"+nm("Mail")),
		soaOf(nm("EXAMPLE"), 1),
		rrOf(nm("b", "example"), impl.TypeA, "aaaa"),
		rrOf(nm("b", "example"), impl.TypeMX, "\x00\x01"+nm("mail")),
		rrOf(nm("b", "example"), impl.TypeA, "AAAA"),
		rrOf(nm("example"), impl.TypeNS, nm("nS")),
		rrOf(nm("b", "example"), impl.TypeMX, "\x00\x01"+nm("MAIL")),
		rrOf(nm("x", "b", "example"), impl.TypeTXT, st("T")),
		rrOf(nm("X", "b", "example"), impl.TypeTXT, st("t")),
	}
	z := mustBuild(t, list, nm("EXAMple"))
	owner := nm("B", "example")
	want := impl.Zone{Apex: nm("EXAMple"), Sets: []impl.Set{
		{Owner: nm("eXAMPLE"), Type: 2, TTL: 3600, Data: []string{nm("Ns")}},
		{Owner: nm("eXAMPLE"), Type: 6, TTL: 3600, Data: []string{list[3].Data}},
		{Owner: owner, Type: 1, TTL: 3600, Data: []string{"AAAA", "aaaa"}},
		{Owner: owner, Type: 15, TTL: 3600, Data: []string{"\x00\x01" + nm("Mail")}},
		{Owner: owner, Type: 99, TTL: 3600, Data: []string{"any"}},
		{Owner: nm("x", "b", "example"), Type: 16, TTL: 3600, Data: []string{st("T"), st("t")}},
	}}
	if !sameZone(z, want) || impl.CheckZone(z) != impl.OK {
		t.Errorf("BuildZone = %s, want %s", tellZone(z), tellZone(want))
	}
}

// The first rule: the apex, and how many records there are.
func TestBuildZoneSize(t *testing.T) {
	for _, apex := range noNames() {
		checkBuild(t, "an apex that is no name", begun(nm("a")), apex, impl.ErrForm, -1)
		checkBuild(t, "no record and no apex", nil, apex, impl.ErrForm, -1)
		checkBuild(t, "many records and no apex", slices.Repeat(begun(nm("a")), 300), apex, impl.ErrForm, -1)
	}
	list := begun(inEx())
	for len(list) < 500 {
		list = append(list, rrOf(inEx("a"), 99, itoa(len(list))))
	}
	checkBuild(t, "500 records", list, inEx(), impl.OK, 0)
	if z := mustBuild(t, list, inEx()); impl.CheckZone(z) != impl.OK || len(impl.ZoneRecords(z)) != 500 {
		t.Errorf("a zone of 500 records: CheckZone = %d, %d records", impl.CheckZone(z), len(impl.ZoneRecords(z)))
	}
	checkBuild(t, "501 records", append(list, rrOf(inEx("a"), 99, "x")), inEx(), impl.ErrCount, -1)
	checkBuild(t, "501 records, one twice", append(list, list[0]), inEx(), impl.ErrCount, -1)
	checkBuild(t, "500 records, one of them ill", append(list[:499:499], impl.RR{}), inEx(), impl.ErrName, 499)
	checkBuild(t, "501 records, one of them ill", append(list, impl.RR{}), inEx(), impl.ErrCount, -1)
	checkBuild(t, "no record", nil, inEx(), impl.ErrSOA, -1)
}

// The second rule: each record by itself.
func TestBuildZoneRecords(t *testing.T) {
	good := aRecord(inEx("a"), 3600)
	at := func(what string, rr impl.RR, code int64) {
		t.Helper()
		where := int64(2)
		if code == impl.OK {
			where = 0
		}
		checkBuild(t, what, begun(inEx(), rr, good), inEx(), code, where)
	}
	for _, owner := range noNames() {
		rr := good
		rr.Owner = owner
		at("an owner that is no name", rr, impl.ErrName)
	}
	for _, class := range []int64{0, 2, 3, 4, 254, 255, 256, 257, -1, 65537, 1<<32 + 1, math.MaxInt64, math.MinInt64} {
		at("another class", inClass(good, class), impl.ErrClass)
	}
	for _, ttl := range []int64{-1, 2147483648, 4294967295, 4294967296, math.MaxInt64, math.MinInt64} {
		at("a time that is none", inTime(aRecord(inEx("b"), 0), ttl), impl.ErrTTL)
	}
	for _, ttl := range []int64{0, 1, 2147483647} {
		at("a time", inTime(aRecord(inEx("b"), 0), ttl), impl.OK)
	}
	for _, rtype := range append(metaTypes(), noTypes()...) {
		at("a type of no zone", rrOf(inEx("b"), rtype, ""), impl.ErrType)
	}
	for _, rtype := range []int64{3, 40, 42, 248, 256, 65534, 65535} {
		at("a type of any data", rrOf(inEx("b"), rtype, ""), impl.OK)
		at("the most data", rrOf(inEx("b"), rtype, strings.Repeat("d", 65535)), impl.OK)
		at("too much data", rrOf(inEx("b"), rtype, strings.Repeat("d", 65536)), impl.ErrData)
	}
	for _, rtype := range formTypes() {
		at("ill data", rrOf(inEx("b"), rtype, "\x01"), impl.ErrData)
	}
	for _, owner := range []string{root, nm("com"), nm("xexample"), nm("example", "com"), nm("a", "b"), nm("a\x07example")} {
		at("an owner elsewhere", aRecord(owner, 3600), impl.ErrZone)
	}
	for _, owner := range []string{inEx("b"), nm("b", "EXAMPLE"), inEx("a", "b", "c", "d"), inEx("com")} {
		at("an owner in the zone", aRecord(owner, 3600), impl.OK)
	}
	checkBuild(t, "an owner above the apex", begun(nm("a", "b"), aRecord(nm("b"), 1)), nm("a", "b"), impl.ErrZone, 2)
}

// Within a record the faults are told in their order, and of several records the first is told with any of its faults.
func TestBuildZoneRecordOrder(t *testing.T) {
	bad := []struct {
		code int64
		mend func(rr *impl.RR)
	}{
		{impl.ErrName, func(rr *impl.RR) { rr.Owner = nm("com") }},
		{impl.ErrClass, func(rr *impl.RR) { rr.Class = 1 }},
		{impl.ErrTTL, func(rr *impl.RR) { rr.TTL = 0 }},
		{impl.ErrType, func(rr *impl.RR) { rr.Type = impl.TypeA }},
		{impl.ErrData, func(rr *impl.RR) { rr.Data = "abcd" }},
		{impl.ErrZone, func(rr *impl.RR) { rr.Owner = inEx() }},
	}
	rr := impl.RR{Owner: "com", Type: 252, Class: 3, TTL: -1, Data: strings.Repeat("x", 65536)}
	for i, b := range bad {
		checkBuild(t, "fault "+itoa(i), begun(inEx(), rr), inEx(), b.code, 2)
		for _, other := range bad {
			late := impl.RR{Owner: "com", Class: 1}
			other.mend(&late)
			checkBuild(t, "one ahead of another", []impl.RR{rr, late}, inEx(), b.code, 0)
		}
		b.mend(&rr)
	}
	checkBuild(t, "no fault", begun(inEx(), rr), inEx(), impl.OK, 0)
}

// The third rule: what is left out, and times.
func TestBuildZoneTimes(t *testing.T) {
	a, b := aRecord(inEx("a"), 5), rrOf(inEx("a"), impl.TypeA, "bbbb")
	b.TTL = 5
	mx, mX := rrOf(inEx("m"), impl.TypeMX, "\x00\x01"+nm("x")), rrOf(nm("M", "example"), impl.TypeMX, "\x00\x01"+nm("X"))
	for _, c := range []struct {
		what     string
		more     []impl.RR
		code, at int64
	}{
		{"one time", []impl.RR{a, b}, impl.OK, 0},
		{"two times", []impl.RR{a, inTime(b, 6)}, impl.ErrMixed, 3},
		{"the third", []impl.RR{a, b, inTime(rrOf(inEx("a"), impl.TypeA, "cccc"), 0)}, impl.ErrMixed, 4},
		{"one left out, of another time", []impl.RR{a, b, inTime(a, 6)}, impl.ErrMixed, 4},
		{"one left out ahead of another", []impl.RR{a, inTime(a, 6), inTime(b, 7)}, impl.ErrMixed, 3},
		{"one left out of the same time", []impl.RR{a, a, b, b, a}, impl.OK, 0},
		{"the first one's time counts", []impl.RR{a, inTime(b, 6), inTime(rrOf(inEx("a"), impl.TypeA, "cccc"), 6)}, impl.ErrMixed, 3},
		{"owners in other letters", []impl.RR{a, aRecord(nm("A", "EXAMPLE"), 6)}, impl.ErrMixed, 3},
		{"another type", []impl.RR{a, rrOf(inEx("a"), 99, "")}, impl.OK, 0},
		{"another owner", []impl.RR{a, aRecord(inEx("b"), 6)}, impl.OK, 0},
		{"the same folded", []impl.RR{mx, mX, mx}, impl.OK, 0},
		{"the same folded, of another time", []impl.RR{mx, inTime(mX, 1)}, impl.ErrMixed, 3},
		{"the NS left out at the apex", []impl.RR{rrOf(nm("EXAMPLE"), impl.TypeNS, nm("NS"))}, impl.OK, 0},
		{"its time", []impl.RR{inTime(rrOf(nm("EXAMPLE"), impl.TypeNS, nm("NS")), 3)}, impl.ErrMixed, 2},
	} {
		checkBuild(t, c.what, begun(inEx(), c.more...), inEx(), c.code, c.at)
	}
	z := mustBuild(t, begun(inEx(), a, b, a, mx, mX), inEx())
	if len(z.Sets) != 4 || len(z.Sets[2].Data) != 2 || len(z.Sets[3].Data) != 1 || z.Sets[3].Data[0] != mx.Data {
		t.Errorf("records given twice: %s", tellZone(z))
	}
}

// The fourth and the fifth rule: the SOA and the NS of the apex.
func TestBuildZoneApex(t *testing.T) {
	soa, ns, a := soaOf(inEx(), 1), rrOf(inEx(), impl.TypeNS, nm("ns")), aRecord(inEx("a"), 1)
	big := soa
	big.Owner, big.Data = nm("EXAMPLE"), capital(soa.Data[:10])+soa.Data[10:]
	for _, c := range []struct {
		what     string
		list     []impl.RR
		code, at int64
	}{
		{"none", []impl.RR{ns, a}, impl.ErrSOA, -1},
		{"twice the same", []impl.RR{soa, ns, soa}, impl.OK, 0},
		{"the same in other letters", []impl.RR{soa, ns, big}, impl.OK, 0},
		{"a second", []impl.RR{soa, a, ns, soaOf(inEx(), 2)}, impl.ErrSOA, 3},
		{"a second and a third", []impl.RR{a, soa, soa, soaOf(inEx(), 2), soaOf(inEx(), 3)}, impl.ErrSOA, 3},
		{"one elsewhere", []impl.RR{soa, ns, soaOf(inEx("a"), 1)}, impl.ErrSOA, 2},
		{"only elsewhere", []impl.RR{ns, soaOf(inEx("a"), 1)}, impl.ErrSOA, 1},
		{"elsewhere ahead", []impl.RR{ns, soaOf(inEx("a"), 1), soa}, impl.ErrSOA, 1},
		{"elsewhere behind a second", []impl.RR{soa, soaOf(inEx(), 2), soaOf(inEx("a"), 1)}, impl.ErrSOA, 1},
		{"elsewhere ahead of a second", []impl.RR{soa, soaOf(inEx("a"), 1), soaOf(inEx(), 2)}, impl.ErrSOA, 1},
		{"only in other letters", []impl.RR{ns, big}, impl.OK, 0},
		{"no NS", []impl.RR{soa, a}, impl.ErrNS, -1},
		{"NS only elsewhere", []impl.RR{soa, rrOf(inEx("a"), impl.TypeNS, nm("ns"))}, impl.ErrNS, -1},
		{"NS in other letters", []impl.RR{soa, rrOf(nm("EXAMPLE"), impl.TypeNS, nm("ns"))}, impl.OK, 0},
		{"several NS", []impl.RR{soa, ns, rrOf(inEx(), impl.TypeNS, root)}, impl.OK, 0},
		{"neither", []impl.RR{a}, impl.ErrSOA, -1},
	} {
		checkBuild(t, c.what, c.list, inEx(), c.code, c.at)
	}
}

// The rules from the sixth on: wildcards, records that must be alone, DNAMEs.
func TestBuildZoneShapes(t *testing.T) {
	cname := func(owner, to string) impl.RR { return rrOf(owner, impl.TypeCNAME, nm(to)) }
	dname := func(owner, to string) impl.RR { return rrOf(owner, impl.TypeDNAME, nm(to)) }
	ns := func(owner string) impl.RR { return rrOf(owner, impl.TypeNS, nm("ns")) }
	a := func(labels ...string) impl.RR { return aRecord(inEx(labels...), 1) }
	nsec := func(owner string) impl.RR { return rrOf(owner, impl.TypeNSEC, nm("x")+"\x00\x01\x40") }
	www := inEx("www")
	for _, c := range []struct {
		what     string
		more     []impl.RR
		code, at int64
	}{
		{"NS at a wildcard", []impl.RR{a("a"), ns(inEx("*", "w"))}, impl.ErrWild, 3},
		{"DNAME at a wildcard", []impl.RR{dname(inEx("*"), "x"), ns(inEx("*"))}, impl.ErrWild, 2},
		{"others at a wildcard", []impl.RR{a("*"), cname(inEx("*", "w"), "x"), nsec(inEx("*", "w")), rrOf(inEx("*"), 16, st("t"))}, impl.OK, 0},
		{"below a wildcard", []impl.RR{ns(inEx("a", "*")), dname(inEx("b", "*"), "x")}, impl.OK, 0},
		{"a label that only begins so", []impl.RR{ns(inEx("*a")), dname(inEx("**"), "x")}, impl.OK, 0},
		{"two CNAMEs", []impl.RR{cname(www, "x"), a("a"), cname(www, "y")}, impl.ErrSingle, 4},
		{"two CNAMEs, other letters", []impl.RR{cname(www, "x"), cname(capital(www), "y")}, impl.ErrSingle, 3},
		{"a CNAME twice", []impl.RR{cname(www, "x"), cname(capital(www), "X")}, impl.OK, 0},
		{"three CNAMEs, one twice", []impl.RR{cname(www, "x"), cname(www, "x"), cname(www, "y"), cname(www, "z")}, impl.ErrSingle, 4},
		{"two DNAMEs", []impl.RR{dname(www, "x"), dname(www, "y")}, impl.ErrSingle, 3},
		{"a DNAME twice", []impl.RR{dname(www, "x"), dname(www, "X"), dname(capital(www), "x")}, impl.OK, 0},
		{"two owners", []impl.RR{cname(www, "x"), cname(inEx("a"), "x"), dname(inEx("b"), "x"), dname(inEx("c"), "x")}, impl.OK, 0},
		{"a CNAME behind another", []impl.RR{a("www"), cname(www, "x")}, impl.ErrSingle, 2},
		{"a CNAME ahead of another", []impl.RR{cname(www, "x"), a("a"), a("www"), rrOf(www, 99, "")}, impl.ErrSingle, 4},
		{"a CNAME and an NSEC", []impl.RR{nsec(www), cname(www, "x"), nsec(www)}, impl.OK, 0},
		{"a CNAME, an NSEC and one more", []impl.RR{nsec(www), cname(www, "x"), rrOf(www, 46, "sig")}, impl.ErrSingle, 4},
		{"a CNAME and NS", []impl.RR{ns(www), cname(www, "x")}, impl.ErrSingle, 2},
		{"a CNAME at the apex", []impl.RR{cname(inEx(), "x")}, impl.ErrSingle, 0},
		{"a DNAME ahead of a CNAME", []impl.RR{dname(www, "x"), cname(www, "x")}, impl.ErrSingle, 2},
		{"a DNAME behind a CNAME", []impl.RR{cname(www, "x"), dname(www, "x")}, impl.ErrSingle, 3},
		{"two CNAMEs behind another record", []impl.RR{a("www"), cname(www, "x"), cname(www, "y")}, impl.ErrSingle, 4},
		{"a second DNAME behind one beside a CNAME", []impl.RR{a("www"), cname(www, "x"), dname(inEx("d"), "x"), dname(inEx("d"), "y")}, impl.ErrSingle, 5},
		{"a DNAME and others", []impl.RR{dname(www, "x"), a("www"), ns(www), nsec(www)}, impl.OK, 0},
		{"below a DNAME", []impl.RR{dname(www, "x"), a("b", "www"), a("a", "www")}, impl.ErrBelow, 3},
		{"ahead of the DNAME", []impl.RR{a("c"), a("a", "b", "c", "www"), dname(www, "x"), a("a", "www")}, impl.ErrBelow, 3},
		{"below in other letters", []impl.RR{dname(www, "x"), aRecord(capital(inEx("b", "www")), 1)}, impl.ErrBelow, 3},
		{"a DNAME below a DNAME", []impl.RR{dname(inEx("a", "b"), "x"), dname(inEx("b"), "x")}, impl.ErrBelow, 2},
		{"beside a DNAME", []impl.RR{dname(www, "x"), a("xwww"), a("a", "xwww"), a("www", "a")}, impl.OK, 0},
		{"behind what lies below one of two", []impl.RR{dname(inEx("a"), "x"), dname(inEx("m"), "x"), a("b"), a("z", "m")}, impl.ErrBelow, 5},
		{"a DNAME at the apex", []impl.RR{dname(inEx(), "x")}, impl.OK, 0},
		{"a DNAME at the apex and more", []impl.RR{dname(inEx(), "x"), a("a")}, impl.ErrBelow, 3},
	} {
		checkBuild(t, c.what, begun(inEx(), c.more...), inEx(), c.code, c.at)
	}
	checkBuild(t, "an apex that is a wildcard", begun(nm("*", "x")), nm("*", "x"), impl.ErrWild, 1)
	checkBuild(t, "a DNAME at the root", begun(root, rrOf(nm("a"), 99, ""), rrOf(root, impl.TypeDNAME, nm("x"))), root, impl.ErrBelow, 2)
	checkBuild(t, "a wildcard below the root", begun(root, ns(nm("*"))), root, impl.ErrWild, 2)
}

// Of two rules that are broken the one told first is answered, wherever its record stands.
func TestBuildZoneRuleOrder(t *testing.T) {
	apex := inEx()
	// rules, in their order: records that break each, behind those that a zone has, and where
	rules := []struct {
		what string
		code int64
		list []impl.RR
	}{
		{"ill record", impl.ErrZone, []impl.RR{aRecord(nm("com"), 1)}},
		{"times", impl.ErrMixed, []impl.RR{aRecord(inEx("t"), 1), aRecord(inEx("t"), 2)}},
		{"SOA", impl.ErrSOA, []impl.RR{soaOf(inEx("s"), 1)}},
		{"wildcard", impl.ErrWild, []impl.RR{rrOf(inEx("*"), impl.TypeNS, nm("x"))}},
		{"two CNAMEs", impl.ErrSingle, []impl.RR{rrOf(inEx("c"), impl.TypeCNAME, nm("x")), rrOf(inEx("c"), impl.TypeCNAME, nm("y"))}},
		{"CNAME and more", impl.ErrSingle, []impl.RR{rrOf(inEx("d"), impl.TypeCNAME, nm("x")), rrOf(inEx("d"), 99, "")}},
		{"DNAME", impl.ErrBelow, []impl.RR{rrOf(inEx("e"), impl.TypeDNAME, nm("x")), rrOf(inEx("a", "e"), 99, "")}},
	}
	for i, first := range rules {
		at := 1 + len(first.list)
		checkBuild(t, first.what, begun(apex, first.list...), apex, first.code, int64(at))
		for _, second := range rules[i+1:] {
			what := first.what + " and " + second.what
			checkBuild(t, what, begun(apex, append(slices.Clone(first.list), second.list...)...), apex, first.code, int64(at))
			checkBuild(t, what, begun(apex, append(slices.Clone(second.list), first.list...)...), apex, first.code, int64(at+len(second.list)))
		}
		bare := append([]impl.RR{soaOf(apex, 1)}, first.list...)
		if i < 3 {
			checkBuild(t, first.what+" without NS", bare, apex, first.code, int64(at-1))
		} else {
			checkBuild(t, first.what+" without NS", bare, apex, impl.ErrNS, -1)
		}
		if i < 2 {
			checkBuild(t, first.what+" without SOA", first.list, apex, first.code, int64(at-2))
		} else if i > 2 {
			checkBuild(t, first.what+" without SOA", first.list, apex, impl.ErrSOA, -1)
		}
	}
}

// Arbitrary records, held against the chapter said once more.
func TestBuildZoneArbitrary(t *testing.T) {
	r := rand.New(rand.NewSource(61))
	seen := map[int64]int{}
	for n := range 12000 {
		apex := apexes()[n%5]
		list := zoneList(r, apex, n%17)
		spoilList(r, list, n)
		if r.Intn(20) == 0 {
			list = list[r.Intn(len(list)):]
		}
		want, code, at := zoneOf(list, apex)
		got, gotCode, gotAt := impl.BuildZone(list, apex)
		seen[gotCode]++
		if gotCode != code || gotAt != at || !sameZone(got, want) {
			t.Fatalf("BuildZone(%s, %q) = %s, %d at %d, want %s, %d at %d", tellRecords(list), apex, tellZone(got), gotCode, gotAt, tellZone(want), code, at)
		}
	}
	for _, code := range []int64{impl.OK, impl.ErrName, impl.ErrClass, impl.ErrTTL, impl.ErrType, impl.ErrData, impl.ErrZone, impl.ErrMixed, impl.ErrSOA, impl.ErrNS, impl.ErrWild, impl.ErrSingle, impl.ErrBelow} {
		if seen[code] < 50 {
			t.Errorf("the code %d came up only %d times", code, seen[code])
		}
	}
}

// spoilList makes some record of some lists another one.
func spoilList(r *rand.Rand, list []impl.RR, n int) {
	rr := &list[r.Intn(len(list))]
	switch n % 31 {
	case 0:
		rr.Owner = rr.Owner[1:]
	case 1:
		rr.Class = int64(r.Intn(4))
	case 2:
		rr.TTL = []int64{-1, 0, 2147483647, 2147483648}[r.Intn(4)]
	case 3:
		rr.Type = []int64{-1, 0, 1, 41, 249, 252, 255, 65535, 65536}[r.Intn(9)]
	case 4:
		rr.Data += "x"
	case 5:
		rr.Owner = someName(r, 3)
	case 6:
		rr.Type, rr.Data = impl.TypeSOA, soaOf(root, int64(r.Intn(3))).Data
	case 7, 8, 9:
		rr.TTL = 60
	}
}
