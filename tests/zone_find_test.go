package tests

import (
	"math"
	"math/rand"
	"slices"
	"strings"
	"testing"

	"loop.example/s01858/impl"
)

// ZoneRecords tells set by set, whatever the zone is.
func TestZoneRecords(t *testing.T) {
	z := impl.Zone{Apex: "no name", Sets: []impl.Set{
		{Owner: "b", Type: -1, TTL: math.MaxInt64, Data: []string{"z", "a", "z"}},
		{Owner: "b", Type: -1, TTL: 2},
		{Owner: "", Type: 70000, TTL: -5, Data: []string{""}},
	}}
	want := []impl.RR{{Owner: "b", Type: -1, Class: 1, TTL: math.MaxInt64, Data: "z"}, {Owner: "b", Type: -1, Class: 1, TTL: math.MaxInt64, Data: "a"},
		{Owner: "b", Type: -1, Class: 1, TTL: math.MaxInt64, Data: "z"}, {Type: 70000, Class: 1, TTL: -5}}
	if got := impl.ZoneRecords(z); !slices.Equal(got, want) {
		t.Errorf("ZoneRecords = %s, want %s", tellRecords(got), tellRecords(want))
	}
	if got := impl.ZoneRecords(impl.Zone{}); len(got) > 0 {
		t.Errorf("ZoneRecords of nothing = %s", tellRecords(got))
	}
	list := impl.ZoneRecords(mustBuild(t, exampleRecords(), inEx()))
	if len(list) != 10 || list[0] != exampleRecords()[1] || list[1] != exampleRecords()[0] || list[9] != exampleRecords()[3] {
		t.Errorf("ZoneRecords = %s", tellRecords(list))
	}
}

// 500 sets and 500 data may be told, 501 of either not.
func TestZoneRecordsMany(t *testing.T) {
	for _, c := range []struct {
		what  string
		sets  []impl.Set
		count int
	}{
		{"500 sets of one", slices.Repeat([]impl.Set{{Data: []string{"d"}}}, 500), 500},
		{"501 sets of one", slices.Repeat([]impl.Set{{Data: []string{"d"}}}, 501), 0},
		{"500 sets of none", make([]impl.Set, 500), 0},
		{"501 sets, one of them with data", append(make([]impl.Set, 500), impl.Set{Data: []string{"d"}}), 0},
		{"500 sets, one of them with data", append(make([]impl.Set, 499), impl.Set{Data: []string{"d"}}), 1},
		{"a set of 500", []impl.Set{{Data: times(500, "d")}}, 500},
		{"a set of 501", []impl.Set{{Data: times(501, "d")}}, 0},
		{"two sets of 500 in all", []impl.Set{{Data: times(250, "d")}, {Data: times(250, "d")}}, 500},
		{"two sets of 501 in all", []impl.Set{{Data: times(250, "d")}, {Data: times(251, "d")}}, 0},
	} {
		if got := impl.ZoneRecords(impl.Zone{Apex: root, Sets: c.sets}); len(got) != c.count {
			t.Errorf("%s: ZoneRecords has %d", c.what, len(got))
		}
	}
}

// checkNoZone holds all functions that ask for a valid zone against one that is none.
func checkNoZone(t *testing.T, what string, z impl.Zone) {
	t.Helper()
	if code := impl.CheckZone(z); code != impl.ErrForm {
		t.Errorf("%s: CheckZone = %d", what, code)
	}
	for _, name := range []string{z.Apex, inEx(), inEx("a")} {
		for _, rtype := range []int64{impl.TypeSOA, impl.TypeNS, impl.TypeA} {
			if set, ok := impl.FindSet(z, name, rtype); ok || !sameSet(set, impl.Set{}) {
				t.Errorf("%s: FindSet(%.80q, %d) = %+v, %t", what, name, rtype, set, ok)
			}
		}
		if node, code := impl.FindNode(z, name); code != impl.ErrForm || !sameNode(node, impl.Node{}) {
			t.Errorf("%s: FindNode(%.80q) = %+v, %d", what, name, node, code)
		}
	}
	if names, code := impl.ZoneNames(z); code != impl.ErrForm || len(names) > 0 {
		t.Errorf("%s: ZoneNames = %.200q, %d", what, names, code)
	}
}

// Zones that are not valid, each by one change of a valid one.
func TestCheckZoneWrong(t *testing.T) {
	list := begun(inEx(), aRecord(inEx("a"), 60), inTime(rrOf(inEx("a"), 1, "zzzz"), 60), rrOf(inEx("a"), 99, "d"), rrOf(inEx("b"), impl.TypeMX, "\x00\x01"+nm("m")))
	good := mustBuild(t, list, inEx())
	// the sets: 0 NS, 1 SOA, 2 a's A with two data, 3 a's 99, 4 b's MX
	if impl.CheckZone(good) != impl.OK || len(good.Sets) != 5 || len(good.Sets[2].Data) != 2 {
		t.Fatalf("the zone is %s, CheckZone = %d", tellZone(good), impl.CheckZone(good))
	}
	checkNoZone(t, "nothing", impl.Zone{})
	checkNoZone(t, "no sets", impl.Zone{Apex: inEx()})
	for _, c := range []struct {
		what string
		make func(z *impl.Zone)
	}{
		{"another apex", func(z *impl.Zone) { z.Apex = nm("com") }},
		{"an apex that is none", func(z *impl.Zone) { z.Apex = "" }},
		{"an apex above", func(z *impl.Zone) { z.Apex = root }},
		{"owners out of order", func(z *impl.Zone) { z.Sets[3], z.Sets[4] = z.Sets[4], z.Sets[3] }},
		{"types out of order", func(z *impl.Zone) { z.Sets[2], z.Sets[3] = z.Sets[3], z.Sets[2] }},
		{"the apex's types out of order", func(z *impl.Zone) { z.Sets[0], z.Sets[1] = z.Sets[1], z.Sets[0] }},
		{"a set twice", func(z *impl.Zone) { z.Sets = append(z.Sets, z.Sets[4]) }},
		{"a set in two", func(z *impl.Zone) {
			one, two := z.Sets[2], z.Sets[2]
			one.Data, two.Data = one.Data[:1], two.Data[1:]
			z.Sets = slices.Insert(z.Sets, 2, one)
			z.Sets[3] = two
		}},
		{"a set without data", func(z *impl.Zone) { z.Sets[4].Data = nil }},
		{"one more set without data", func(z *impl.Zone) { z.Sets = append(z.Sets, impl.Set{Owner: inEx("c"), Type: 1}) }},
		{"data out of order", func(z *impl.Zone) { slices.Reverse(z.Sets[2].Data) }},
		{"data twice", func(z *impl.Zone) { z.Sets[2].Data = append(z.Sets[2].Data, "zzzz") }},
		{"data twice, folded", func(z *impl.Zone) { z.Sets[4].Data = append(z.Sets[4].Data, "\x00\x01"+nm("M")) }},
		{"letters of an owner unlike", func(z *impl.Zone) { z.Sets[3].Owner = nm("A", "example") }},
		{"letters of the apex's owner unlike", func(z *impl.Zone) { z.Sets[1].Owner = nm("Example") }},
		{"a time", func(z *impl.Zone) { z.Sets[3].TTL = -1 }},
		{"a long time", func(z *impl.Zone) { z.Sets[3].TTL = 2147483648 }},
		{"a meta type", func(z *impl.Zone) { z.Sets[3].Type = 255 }},
		{"no type", func(z *impl.Zone) { z.Sets[3].Type = 65536 }},
		{"ill data", func(z *impl.Zone) { z.Sets[2].Data[0] = "abc" }},
		{"an owner that is no name", func(z *impl.Zone) { z.Sets[4].Owner = "b" }},
		{"an owner elsewhere", func(z *impl.Zone) { z.Sets[4].Owner = nm("examplf") }},
		{"no SOA", func(z *impl.Zone) { z.Sets = slices.Delete(z.Sets, 1, 2) }},
		{"two SOAs", func(z *impl.Zone) { z.Sets[1].Data = append(z.Sets[1].Data, soaOf(inEx(), 2).Data) }},
		{"no NS", func(z *impl.Zone) { z.Sets = z.Sets[1:] }},
		{"a CNAME beside another", func(z *impl.Zone) { z.Sets[3].Type, z.Sets[3].Data[0] = impl.TypeCNAME, nm("x") }},
		{"much data", func(z *impl.Zone) {
			z.Sets[3].Data = nil
			for n := range 497 {
				z.Sets[3].Data = append(z.Sets[3].Data, be(int64(n), 2))
			}
		}},
	} {
		z := cloneZone(good)
		c.make(&z)
		checkNoZone(t, c.what, z)
	}
	for _, c := range []struct {
		what string
		make func(z *impl.Zone)
	}{
		{"as it is", func(z *impl.Zone) {}},
		{"letters of the apex", func(z *impl.Zone) { z.Apex = nm("EXAMPLE") }},
		{"letters of all of an owner's sets", func(z *impl.Zone) { z.Sets[2].Owner, z.Sets[3].Owner = inEx("A"), inEx("A") }},
		{"letters of data", func(z *impl.Zone) { z.Sets[4].Data[0] = "\x00\x01" + nm("M") }},
		{"times", func(z *impl.Zone) { z.Sets[2].TTL, z.Sets[3].TTL = 0, 2147483647 }},
		{"much data", func(z *impl.Zone) {
			z.Sets[3].Data = nil
			for n := range 495 {
				z.Sets[3].Data = append(z.Sets[3].Data, be(int64(n), 2))
			}
		}},
	} {
		z := cloneZone(good)
		c.make(&z)
		if code := impl.CheckZone(z); code != impl.OK {
			t.Errorf("%s: CheckZone = %d", c.what, code)
		}
	}
}

// A zone with as many sets as there may be, and one more.
func TestCheckZoneManySets(t *testing.T) {
	list := begun(inEx())
	for n := range 498 {
		list = append(list, aRecord(inEx("h"+itoa(1000+n)), 60))
	}
	z := mustBuild(t, list, inEx())
	if len(z.Sets) != 500 || impl.CheckZone(z) != impl.OK {
		t.Errorf("%d sets, CheckZone = %d", len(z.Sets), impl.CheckZone(z))
	}
	z.Sets = append(z.Sets, impl.Set{Owner: inEx("z"), Type: 1, TTL: 60, Data: []string{"abcd"}})
	checkNoZone(t, "501 sets", z)
}

func TestFindSet(t *testing.T) {
	z := mustBuild(t, append(exampleRecords(), rrOf(nm("WEB", "example"), impl.TypeA, "aaaa"), rrOf(inEx("web"), 99, "d")), inEx())
	for _, c := range []struct {
		name  string
		rtype int64
		want  impl.Set
	}{
		{inEx("web"), 1, impl.Set{Owner: inEx("web"), Type: 1, TTL: 3600, Data: []string{"aaaa", "\xc0\x00\x02\x50"}}},
		{nm("wEb", "EXAMPLE"), 99, impl.Set{Owner: inEx("web"), Type: 99, TTL: 3600, Data: []string{"d"}}},
		{inEx(), 2, impl.Set{Owner: inEx(), Type: 2, TTL: 3600, Data: []string{inEx("ns1")}}},
		{inEx("*", "w"), 16, impl.Set{Owner: inEx("*", "w"), Type: 16, TTL: 3600, Data: []string{"\x04wild"}}},
		{inEx("ns", "sub"), 1, impl.Set{Owner: inEx("ns", "sub"), Type: 1, TTL: 3600, Data: []string{"\xc0\x00\x02\x35"}}},
	} {
		if got, ok := impl.FindSet(z, c.name, c.rtype); !ok || !sameSet(got, c.want) {
			t.Errorf("FindSet(%q, %d) = %+v, %t", c.name, c.rtype, got, ok)
		}
	}
	for _, c := range []struct {
		name  string
		rtype int64
	}{
		{inEx("web"), 2}, {inEx("web"), 0}, {inEx("web"), -1}, {inEx("web"), 255}, {inEx("web"), 65537}, {inEx("web"), 1<<32 + 1},
		{inEx("none"), 1}, {inEx("ent"), 1}, {inEx("q", "w"), 16}, {root, 2}, {nm("com"), 1}, {nm("web"), 1}, {inEx("a", "web"), 1}, {"", 1}, {"web", 1},
	} {
		if got, ok := impl.FindSet(z, c.name, c.rtype); ok || !sameSet(got, impl.Set{}) {
			t.Errorf("FindSet(%q, %d) = %+v, %t", c.name, c.rtype, got, ok)
		}
	}
	for _, name := range noNames() {
		if got, ok := impl.FindSet(z, name, 1); ok || !sameSet(got, impl.Set{}) {
			t.Errorf("FindSet(%.80q) = %+v, %t", name, got, ok)
		}
	}
}

func TestFindNode(t *testing.T) {
	more := []impl.RR{rrOf(inEx("deep", "sub"), impl.TypeNS, nm("x")), rrOf(inEx("SUB"), 99, "d"), aRecord(inEx("ns", "Deep", "sub"), 60), rrOf(inEx("web"), 99, "d"),
		rrOf(inEx("Z", "Y", "Hole"), 99, "d"), rrOf(nm("a", "HOLE", "EXAMPLE"), 99, "d")}
	z := mustBuild(t, append(exampleRecords(), more...), nm("exAMPLE"))
	for _, c := range []struct {
		name string
		want impl.Node
	}{
		{root, impl.Node{}},
		{nm("com"), impl.Node{}},
		{nm("example", "com"), impl.Node{}},
		{nm("xexample"), impl.Node{}},
		{inEx(), impl.Node{Kind: 3, Closest: inEx(), Types: []int64{2, 6}}},
		{nm("EXAMPLE"), impl.Node{Kind: 3, Closest: nm("EXAMPLE"), Types: []int64{2, 6}}},
		{nm("Web", "Example"), impl.Node{Kind: 3, Closest: nm("Web", "Example"), Types: []int64{1, 99}}},
		{nm("A", "b", "Web", "Example"), impl.Node{Kind: 1, Closest: nm("Web", "Example")}},
		{inEx("ent"), impl.Node{Kind: 2, Closest: inEx("ent")}},
		{inEx("Y", "Ent"), impl.Node{Kind: 2, Closest: inEx("Y", "Ent")}},
		{inEx("z", "Y", "Ent"), impl.Node{Kind: 1, Closest: inEx("Y", "Ent")}},
		{inEx("hole"), impl.Node{Kind: 2, Closest: inEx("hole")}},
		{inEx("b", "hole"), impl.Node{Kind: 1, Closest: inEx("hole")}},
		{inEx("hol"), impl.Node{Kind: 1, Closest: inEx()}},
		{inEx("holes"), impl.Node{Kind: 1, Closest: inEx()}},
		{inEx("zz"), impl.Node{Kind: 1, Closest: inEx()}},
		{inEx("w"), impl.Node{Kind: 2, Closest: inEx("w")}},
		{inEx("q", "w"), impl.Node{Kind: 1, Closest: inEx("w")}},
		{inEx("*", "w"), impl.Node{Kind: 3, Closest: inEx("*", "w"), Types: []int64{16}}},
		{inEx("q", "*", "w"), impl.Node{Kind: 1, Closest: inEx("*", "w")}},
		{nm("Sub", "example"), impl.Node{Kind: 4, Closest: nm("Sub", "example"), Cut: inEx("sub"), Types: []int64{2, 99}}},
		{inEx("ns", "SUB"), impl.Node{Kind: 5, Closest: inEx("ns", "SUB"), Cut: inEx("sub"), Types: []int64{1}}},
		{inEx("q", "SUB"), impl.Node{Kind: 5, Closest: inEx("SUB"), Cut: inEx("sub")}},
		{inEx("deep", "sub"), impl.Node{Kind: 5, Closest: inEx("deep", "sub"), Cut: inEx("sub"), Types: []int64{2}}},
		{inEx("ns", "deep", "sub"), impl.Node{Kind: 5, Closest: inEx("ns", "deep", "sub"), Cut: inEx("sub"), Types: []int64{1}}},
		{inEx("a", "b", "deep", "sub"), impl.Node{Kind: 5, Closest: inEx("deep", "sub"), Cut: inEx("sub")}},
		{inEx("old"), impl.Node{Kind: 3, Closest: inEx("old"), Types: []int64{39}}},
		{inEx("a", "old"), impl.Node{Kind: 1, Closest: inEx("old")}},
	} {
		if got, code := impl.FindNode(z, c.name); code != impl.OK || !sameNode(got, c.want) {
			t.Errorf("FindNode(%q) = %+v, %d, want %+v", c.name, got, code, c.want)
		}
	}
	for _, name := range noNames() {
		if got, code := impl.FindNode(z, name); code != impl.ErrForm || !sameNode(got, impl.Node{}) {
			t.Errorf("FindNode(%.80q) = %+v, %d", name, got, code)
		}
	}
	if got, code := impl.FindNode(mustBuild(t, begun(root), root), root); code != impl.OK || !sameNode(got, impl.Node{Kind: 3, Closest: root, Types: []int64{2, 6}}) {
		t.Errorf("FindNode of the root = %+v, %d", got, code)
	}
}

// Names: an owner's letters are the zone's, those of a name between are the first owner's under it.
func TestZoneNames(t *testing.T) {
	list := []impl.RR{
		soaOf(nm("Example"), 1), rrOf(inEx(), impl.TypeNS, root),
		rrOf(nm("b", "Ent", "EXAMPLE"), 99, ""), rrOf(nm("A", "eNt", "exAmple"), 99, ""),
		rrOf(nm("c", "d", "ENT", "example"), 99, ""), rrOf(nm("x", "D", "ent", "example"), 99, ""), rrOf(nm("D", "ent", "example"), 1, "abcd"),
		rrOf(nm("f", "g", "h", "example"), 99, ""),
	}
	want := []string{nm("Example"), nm("eNt", "exAmple"), nm("A", "eNt", "exAmple"), nm("b", "Ent", "EXAMPLE"), nm("D", "ent", "example"), nm("c", "d", "ENT", "example"),
		nm("x", "D", "ent", "example"), inEx("h"), inEx("g", "h"), inEx("f", "g", "h")}
	if got, code := impl.ZoneNames(mustBuild(t, list, nm("EXAMPLE"))); code != impl.OK || !slices.Equal(got, want) {
		t.Errorf("ZoneNames = %q, %d, want %q", got, code, want)
	}
	deep := nm(times(127, "a")...)
	got, code := impl.ZoneNames(mustBuild(t, begun(root, rrOf(deep, 99, "")), root))
	if code != impl.OK || len(got) != 128 || got[0] != root || got[1] != nm("a") || got[127] != deep {
		t.Errorf("ZoneNames has %d names, %d", len(got), code)
	}
	if got, code := impl.ZoneNames(mustBuild(t, begun(deep), deep)); code != impl.OK || !slices.Equal(got, []string{deep}) {
		t.Errorf("ZoneNames = %q, %d", got, code)
	}
}

// All finding functions, of arbitrary zones and names, held against the chapter said once more.
func TestZoneFindsArbitrary(t *testing.T) {
	r := rand.New(rand.NewSource(62))
	kinds := map[int64]int{}
	for n := range 400 {
		apex := apexes()[n%3]
		z := mustBuild(t, fitList(r, apex, n%25), apex)
		want := namesOf(z)
		if got, code := impl.ZoneNames(z); code != impl.OK || !slices.Equal(got, want) {
			t.Fatalf("ZoneNames of %s = %q, %d, want %q", tellZone(z), got, code, want)
		}
		names := []string{root, capital(apex), nm("example", "x")}
		for range 20 {
			names = append(names, ownerIn(r, apex, 4))
		}
		for _, name := range names {
			got, code := impl.FindNode(z, name)
			if want := nodeOf(z, name); code != impl.OK || !sameNode(got, want) {
				t.Fatalf("FindNode(%s, %q) = %+v, %d, want %+v", tellZone(z), name, got, code, want)
			}
			kinds[got.Kind]++
			checkSets(t, z, name)
		}
	}
	for kind := range int64(6) {
		if kinds[kind] < 50 {
			t.Errorf("the kind %d came up only %d times", kind, kinds[kind])
		}
	}
}

// checkSets holds FindSet of every type against the sets that the zone has of a name.
func checkSets(t *testing.T, z impl.Zone, name string) {
	t.Helper()
	for _, rtype := range []int64{0, 1, 2, 5, 6, 15, 16, 39, 47, 65280} {
		at := slices.IndexFunc(z.Sets, func(s impl.Set) bool { return s.Type == rtype && small(s.Owner) == small(name) })
		var want impl.Set
		if at >= 0 {
			want = z.Sets[at]
		}
		if got, ok := impl.FindSet(z, name, rtype); ok != (at >= 0) || !sameSet(got, want) {
			t.Errorf("FindSet(%s, %q, %d) = %+v, %t", tellZone(z), name, rtype, got, ok)
		}
	}
}

// Arbitrary zones with something bent: valid just if the zone of their records is themselves.
func TestCheckZoneArbitrary(t *testing.T) {
	r := rand.New(rand.NewSource(63))
	valid := 0
	for n := range 3000 {
		apex := apexes()[n%3]
		z := mustBuild(t, fitList(r, apex, 6), apex)
		bendZone(r, &z)
		want, code, _ := zoneOf(impl.ZoneRecords(z), z.Apex)
		ok := code == impl.OK && sameZone(want, z)
		if ok {
			valid++
		}
		if got := impl.CheckZone(z); ok != (got == impl.OK) || !ok && got != impl.ErrForm {
			t.Fatalf("CheckZone(%s) = %d, valid is %t", tellZone(z), got, ok)
		}
	}
	if valid < 300 || valid > 2700 {
		t.Errorf("%d zones of 3000 were valid", valid)
	}
}

// bendZone changes one thing of a zone, which may leave it valid.
func bendZone(r *rand.Rand, z *impl.Zone) {
	set := &z.Sets[r.Intn(len(z.Sets))]
	at := r.Intn(len(set.Data))
	switch r.Intn(9) {
	case 0:
		set.Owner = capital(set.Owner)
	case 1:
		set.Owner = ownerIn(r, z.Apex, 2)
	case 2:
		set.Type = []int64{1, 2, 5, 16, 39, 47, 65280, 65281}[r.Intn(8)]
	case 3:
		set.TTL = []int64{-1, 0, 60, 2147483647, 2147483648}[r.Intn(5)]
	case 4:
		set.Data[at] = capital(set.Data[at])
	case 5:
		set.Data = append(set.Data, set.Data[at])
	case 6:
		set.Data = slices.Delete(set.Data, at, at+1)
	case 7:
		other := &z.Sets[r.Intn(len(z.Sets))]
		*set, *other = *other, *set
	case 8:
		z.Apex = strings.ToUpper(z.Apex)
	}
}
