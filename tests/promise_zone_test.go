package tests

import (
	"math"
	"math/rand"
	"slices"
	"strings"
	"testing"

	"loop.example/s01858/impl"
)

// callZone calls every function of chapter 8 with a zone and a name: nothing stands beside a code.
func callZone(t *testing.T, z impl.Zone, name string, rtype int64) {
	t.Helper()
	code := impl.CheckZone(z)
	if code != impl.OK && code != impl.ErrForm {
		t.Errorf("CheckZone(%s) = %d", tellZone(z), code)
	}
	set, ok := impl.FindSet(z, name, rtype)
	if ok && (code != impl.OK || len(set.Data) == 0 || !isName(name)) || !ok && !sameSet(set, impl.Set{}) {
		t.Errorf("FindSet(%s, %.80q, %d) = %+v, %t", tellZone(z), name, rtype, set, ok)
	}
	node, nodeCode := impl.FindNode(z, name)
	if fit := code == impl.OK && isName(name); fit != (nodeCode == impl.OK) || !fit && (nodeCode != impl.ErrForm || !sameNode(node, impl.Node{})) {
		t.Errorf("FindNode(%s, %.80q) = %+v, %d", tellZone(z), name, node, nodeCode)
	}
	names, namesCode := impl.ZoneNames(z)
	if namesCode != code || (code == impl.OK) != (len(names) > 0) {
		t.Errorf("ZoneNames(%s) = %.200q, %d", tellZone(z), names, namesCode)
	}
}

// callBuild calls BuildZone with records: there is a valid zone, or nothing beside a code and a place.
func callBuild(t *testing.T, list []impl.RR, apex string) {
	t.Helper()
	z, code, at := impl.BuildZone(list, apex)
	if code == impl.OK && (at != 0 || impl.CheckZone(z) != impl.OK || z.Apex != apex) {
		t.Errorf("BuildZone(%s, %.80q) = %s at %d", tellRecords(list), apex, tellZone(z), at)
	}
	if code != impl.OK && (at < -1 || at >= int64(len(list)) || !sameZone(z, impl.Zone{})) {
		t.Errorf("BuildZone(%s, %.80q) = %s, %d at %d", tellRecords(list), apex, tellZone(z), code, at)
	}
}

// oddNumbers are numbers at the edges of what times, types and classes may be.
func oddNumbers() []int64 {
	return []int64{0, 1, 2, 5, 6, 39, 41, 47, 255, 3600, 65535, 65536, -1, 2147483647, 2147483648, math.MaxInt64, math.MinInt64}
}

// P1: no call panics, and every call ends, whatever it is given.
func TestP1Zone(t *testing.T) {
	r := rand.New(rand.NewSource(64))
	names := append(noNames(), someNames()...)
	texts := append(slices.Clone(names), "*", "abcd", "\x01*", strings.Repeat("\x00", 30), soaOf(root, 1).Data)
	name := func() string { return names[r.Intn(len(names))] }
	odd := func() int64 { return oddNumbers()[r.Intn(len(oddNumbers()))] }
	for n := range 6000 {
		apex := name()
		var list []impl.RR
		if n%2 == 0 {
			apex = apexes()[n%5]
			list = begun(apex)
		}
		for range r.Intn(4) {
			rr := impl.RR{Owner: name(), Type: odd(), Class: 1, TTL: odd(), Data: texts[r.Intn(len(texts))]}
			if r.Intn(2) == 0 {
				rr = recordIn(r, root)
			}
			if r.Intn(8) == 0 {
				rr.Class = odd()
			}
			list = append(list, rr)
		}
		callBuild(t, list, apex)
		z := impl.Zone{Apex: apex}
		for _, rr := range list {
			z.Sets = append(z.Sets, impl.Set{Owner: rr.Owner, Type: rr.Type, TTL: rr.TTL, Data: []string{rr.Data}})
		}
		if n%2 == 0 {
			z.Sets[0], z.Sets[1] = z.Sets[1], z.Sets[0]
		}
		callZone(t, z, name(), odd())
	}
	callBuild(t, nil, "")
	callZone(t, impl.Zone{}, "", 0)
}

// P1: calls with much end, too: more than may be, and as much as may be.
func TestP1ZoneMuch(t *testing.T) {
	many := make([]impl.RR, 3000000)
	callBuild(t, many, inEx())
	callZone(t, impl.Zone{Apex: inEx(), Sets: make([]impl.Set, 3000000)}, inEx(), 1)
	callZone(t, impl.Zone{Apex: inEx(), Sets: []impl.Set{{Owner: inEx(), Type: 1, Data: make([]string, 3000000)}}}, inEx(), 1)
	if got := impl.ZoneRecords(impl.Zone{Sets: []impl.Set{{Data: make([]string, 3000000)}}}); len(got) > 0 {
		t.Errorf("ZoneRecords has %d", len(got))
	}
	long := strings.Repeat("x", 65533)
	list := begun(root)
	for n := range 498 {
		list = append(list, rrOf(nm("a"), 99, be(int64(n*7919%498), 2)+long))
	}
	callBuild(t, list, root)
	deep := begun(root)
	for n := range 498 {
		labels := times(126, "a")
		labels[125] = string([]byte{"0123456789abcdefghijklmnopqrstuvwxyz"[n%36], 'x', byte('0' + n/36)})
		deep = append(deep, rrOf(nm(labels[1:]...), 99, ""))
	}
	z := mustBuild(t, deep, root)
	names, code := impl.ZoneNames(z)
	if code != impl.OK || len(names) != 1+498*125 {
		t.Errorf("ZoneNames has %d names, %d", len(names), code)
	}
	callZone(t, z, nm(times(127, "a")...), 99)
	tails := begun(root)
	for n := range 498 {
		tails = append(tails, rrOf(nm(append(times(100, "t"), itoa(n))...), impl.TypeDNAME, root))
	}
	callBuild(t, tails, root)
}

// P1: nothing is written into an argument, nor behind it into memory that belongs to its owner.
func TestP1ZoneLeavesArguments(t *testing.T) {
	r := rand.New(rand.NewSource(65))
	for n := range 400 {
		apex := apexes()[n%5]
		spare := append(zoneList(r, apex, 12), impl.RR{Owner: "left"})
		list := spare[:len(spare)-1]
		kept := slices.Clone(spare)
		impl.BuildZone(list, apex)
		if !slices.Equal(spare, kept) {
			t.Fatalf("BuildZone made %s of %s", tellRecords(spare), tellRecords(kept))
		}
		z := mustBuild(t, fitList(r, inEx(), 12), inEx())
		if n%3 == 0 {
			bendZone(r, &z)
		}
		for i := range z.Sets {
			data := append(slices.Clone(z.Sets[i].Data), "left")
			z.Sets[i].Data = data[:len(data)-1]
		}
		sets := append(slices.Clone(z.Sets), impl.Set{Owner: "left"})
		z.Sets = sets[:len(sets)-1]
		before := cloneZone(z)
		name := ownerIn(r, inEx(), 3)
		impl.CheckZone(z)
		impl.FindSet(z, name, 1)
		impl.FindNode(z, name)
		impl.ZoneNames(z)
		impl.ZoneRecords(z)
		if !sameZone(z, before) || sets[len(sets)-1].Owner != "left" {
			t.Fatalf("a call made %s of %s", tellZone(z), tellZone(before))
		}
		for _, set := range z.Sets {
			if set.Data[:len(set.Data)+1][len(set.Data)] != "left" {
				t.Fatalf("a call wrote behind the data of %q", set.Owner)
			}
		}
	}
}

// P1: an answer is new memory: it stays as it was, whatever becomes of the argument or of another list of it.
func TestP1ZoneIsNew(t *testing.T) {
	r := rand.New(rand.NewSource(66))
	for range 200 {
		list := fitList(r, inEx(), 15)
		z := mustBuild(t, list, inEx())
		kept := cloneZone(z)
		clear(list)
		if !sameZone(z, kept) {
			t.Fatalf("the zone changed with its records")
		}
		set, _ := impl.FindSet(z, inEx(), impl.TypeNS)
		wantSet := cloneZone(impl.Zone{Sets: []impl.Set{set}}).Sets[0]
		node, _ := impl.FindNode(z, inEx())
		wantTypes := slices.Clone(node.Types)
		names, _ := impl.ZoneNames(z)
		wantNames := slices.Clone(names)
		records := impl.ZoneRecords(z)
		wantRecords := slices.Clone(records)
		for i := range z.Sets {
			// each list of the zone is its own, also behind its end
			_ = append(z.Sets[i].Data, "spoilt")
			for k := range z.Sets[i].Data {
				z.Sets[i].Data[k] = "spoilt"
			}
			for k := i + 1; k < len(z.Sets); k++ {
				if !sameSet(z.Sets[k], kept.Sets[k]) {
					t.Fatalf("two sets of a zone share memory")
				}
			}
		}
		clear(z.Sets)
		if !sameSet(set, wantSet) || !slices.Equal(names, wantNames) || !slices.Equal(records, wantRecords) || !slices.Equal(node.Types, wantTypes) {
			t.Fatalf("an answer changed with the zone")
		}
	}
}

// shuffled is a list in another order.
func shuffled(r *rand.Rand, list []impl.RR) []impl.RR {
	out := slices.Clone(list)
	r.Shuffle(len(out), func(i, k int) { out[i], out[k] = out[k], out[i] })
	return out
}

// inLetters is a record with other letters in its owner and the names of its data.
func inLetters(r *rand.Rand, rr impl.RR) impl.RR {
	turn := func(s string) string {
		out := []byte(s)
		for i, c := range out {
			if r.Intn(2) == 0 {
				out[i] = capital(string([]byte{c}))[0]
			}
		}
		return string(out)
	}
	rr.Owner = turn(rr.Owner)
	for _, span := range impl.DataNames(rr.Type, rr.Data) {
		rr.Data = rr.Data[:span.From] + turn(rr.Data[span.From:span.To]) + rr.Data[span.To:]
	}
	return rr
}

// P9: records in any order, in other letters, some of them several times, make the same zone but for letters.
func TestP9AnyOrder(t *testing.T) {
	r := rand.New(rand.NewSource(67))
	for n := range 300 {
		apex := apexes()[n%3]
		list := fitList(r, apex, n%20)
		if n%10 == 0 {
			list, apex = exampleRecords(), inEx()
		}
		want := foldZone(mustBuild(t, list, apex))
		for range 8 {
			other := shuffled(r, list)
			for range r.Intn(4) {
				other = append(other, other[r.Intn(len(other))])
			}
			for i := range other {
				other[i] = inLetters(r, other[i])
			}
			got := mustBuild(t, shuffled(r, other), capital(apex))
			if !sameZone(foldZone(got), want) {
				t.Fatalf("BuildZone(%s) = %s, want %s", tellRecords(other), tellZone(got), tellZone(want))
			}
		}
	}
}

// P9: without a record given twice, or letters unlike, the order does not show at all.
func TestP9SameLetters(t *testing.T) {
	r := rand.New(rand.NewSource(68))
	for range 200 {
		list := fitList(r, inEx(), 15)
		for i, rr := range list {
			list[i].Owner, list[i].Data = small(rr.Owner), impl.FoldData(rr.Type, rr.Data)
		}
		want := mustBuild(t, list, inEx())
		for range 5 {
			if got := mustBuild(t, shuffled(r, list), inEx()); !sameZone(got, want) {
				t.Fatalf("BuildZone = %s, want %s", tellZone(got), tellZone(want))
			}
		}
	}
}

// P9: records that are no zone in one order are none in another.
func TestP9NoZone(t *testing.T) {
	r := rand.New(rand.NewSource(69))
	for n := range 1500 {
		list := zoneList(r, inEx(), 8)
		spoilList(r, list, n)
		_, code, _ := impl.BuildZone(list, inEx())
		_, other, _ := impl.BuildZone(shuffled(r, list), inEx())
		if (code == impl.OK) != (other == impl.OK) {
			t.Fatalf("BuildZone(%s) = %d, in another order %d", tellRecords(list), code, other)
		}
	}
}

// P9: a valid zone is the zone of its own records.
func TestP9OwnRecords(t *testing.T) {
	r := rand.New(rand.NewSource(70))
	for n := range 600 {
		apex := apexes()[n%3]
		z := mustBuild(t, fitList(r, apex, n%20), apex)
		if n%2 == 0 {
			bendZone(r, &z)
		}
		again, code, _ := impl.BuildZone(impl.ZoneRecords(z), z.Apex)
		if same := code == impl.OK && sameZone(again, z); same != (impl.CheckZone(z) == impl.OK) || n%2 == 1 && !same {
			t.Fatalf("CheckZone(%s) = %d, of its records it is %s, %d", tellZone(z), impl.CheckZone(z), tellZone(again), code)
		}
	}
}

// P10: the names that are there are the owners and all between them and the apex, rising, each once; FindNode says
// absent just of others, where no cut is above.
func TestP10Names(t *testing.T) {
	r := rand.New(rand.NewSource(71))
	for n := range 300 {
		apex := apexes()[n%3]
		z := mustBuild(t, fitList(r, apex, n%25), apex)
		names, code := impl.ZoneNames(z)
		if code != impl.OK {
			t.Fatalf("ZoneNames = %d", code)
		}
		there := map[string]bool{}
		for _, set := range z.Sets {
			for _, name := range above(set.Owner) {
				if under(name, apex) {
					there[small(name)] = true
				}
			}
		}
		for i, name := range names {
			if !there[small(name)] || i > 0 && impl.CompareNames(names[i-1], name) != -1 {
				t.Fatalf("ZoneNames(%s) = %q", tellZone(z), names)
			}
		}
		if len(names) != len(there) {
			t.Fatalf("ZoneNames(%s) has %d names, not %d", tellZone(z), len(names), len(there))
		}
		for range 30 {
			checkAbsent(t, z, there, ownerIn(r, apex, 4))
		}
		for _, name := range names {
			checkAbsent(t, z, there, name)
			checkAbsent(t, z, there, st("a")+name)
		}
	}
}

// checkAbsent holds FindNode's kind of a name under the apex against the names that are there.
func checkAbsent(t *testing.T, z impl.Zone, there map[string]bool, name string) {
	t.Helper()
	isCut := false
	for _, set := range z.Sets {
		isCut = isCut || set.Type == impl.TypeNS && small(set.Owner) != small(z.Apex) && under(name, set.Owner)
	}
	node, code := impl.FindNode(z, name)
	if code != impl.OK || node.Kind == impl.NodeOutside || isCut != (node.Kind == impl.NodeCut || node.Kind == impl.NodeBelow) {
		t.Fatalf("FindNode(%s, %q) = %+v, %d", tellZone(z), name, node, code)
	}
	if !isCut && there[small(name)] == (node.Kind == impl.NodeAbsent) {
		t.Fatalf("FindNode(%s, %q) = %+v, it is there: %t", tellZone(z), name, node, there[small(name)])
	}
	if there[small(name)] != (node.Closest == name) || !there[small(node.Closest)] {
		t.Fatalf("FindNode(%s, %q) = %+v, it is there: %t", tellZone(z), name, node, there[small(name)])
	}
}
