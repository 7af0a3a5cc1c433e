package tests

import (
	"math/rand"
	"slices"
	"strings"
	"testing"

	"loop.example/s01858/impl"
)

// callChange calls all functions of chapter 12: with a code there is nothing beside.
func callChange(t *testing.T, z impl.Zone, m impl.Message) {
	t.Helper()
	for _, q := range m.Questions {
		impl.SerialLess(q.Type, q.Class)
		impl.NextSerial(q.Type)
	}
	if rc, code := impl.CheckConditions(z, m.Answer); code != impl.OK && (rc != 0 || code != impl.ErrForm) {
		t.Errorf("CheckConditions(%s, %s) = %d, %d", tellZone(z), tellRecords(m.Answer), rc, code)
	}
	if rc, code := impl.CheckChanges(z.Apex, m.Authority); code != impl.OK && (rc != 0 || code != impl.ErrForm) {
		t.Errorf("CheckChanges(%q, %s) = %d, %d", z.Apex, tellRecords(m.Authority), rc, code)
	}
	if out, code := impl.ApplyChanges(z, m.Authority); code != impl.OK && (code != impl.ErrForm || !sameZone(out, impl.Zone{})) {
		t.Errorf("ApplyChanges(%s, %s) = %s, %d", tellZone(z), tellRecords(m.Authority), tellZone(out), code)
	}
	out, rc, code := impl.Update(z, m)
	if code != impl.OK && (rc != 0 || code != impl.ErrForm || !sameZone(out, impl.Zone{})) {
		t.Errorf("Update(%s, ..) = %s, %d, %d", tellZone(z), tellZone(out), rc, code)
	}
}

// P1: no call panics, and every call ends, whatever it is given.
func TestP1Change(t *testing.T) {
	r := rand.New(rand.NewSource(116))
	names := append(noNames(), someNames()...)
	odd := func() int64 { return oddNumbers()[r.Intn(len(oddNumbers()))] }
	anything := func() impl.RR {
		return impl.RR{Owner: names[r.Intn(len(names))], Type: odd(), Class: []int64{1, 254, 255, odd()}[r.Intn(4)], TTL: odd(), Data: names[r.Intn(len(names))]}
	}
	for n := range 3000 {
		z := impl.Zone{Apex: names[r.Intn(len(names))]}
		var m impl.Message
		if n%2 == 0 {
			z = changeZone(t, r, apexes()[n%3], 6)
			m = updateMessage(z.Apex, conditionsIn(r, z, 1), changesIn(r, z, 4))
		}
		if n%4 == 0 {
			bendZone(r, &z)
		}
		if n%5 == 0 {
			m.Questions = append(m.Questions, impl.Question{Name: names[r.Intn(len(names))], Type: odd(), Class: odd()})
		}
		for range r.Intn(3) {
			list := recordLists(&m)[r.Intn(3)]
			*list = append(*list, anything())
		}
		callChange(t, z, m)
	}
	callChange(t, impl.Zone{}, impl.Message{})
}

// P1: calls with much end, too.
func TestP1ChangeMuch(t *testing.T) {
	z := mustBuild(t, begun(root), root)
	callChange(t, impl.Zone{Apex: root, Sets: make([]impl.Set, 3000000)}, impl.Message{Answer: make([]impl.RR, 3000000)})
	callChange(t, z, impl.Message{Answer: make([]impl.RR, 3000000), Authority: make([]impl.RR, 3000000)})
	var list, conditions []impl.RR
	for n := range 199 {
		owner := nm(append([]string{itoa(n)}, times(120, "t")...)...)
		list = append(list, rrOf(owner, 65280, strings.Repeat("x", 65500)+itoa(n)))
		conditions = append(conditions, inTime(list[n], 0))
	}
	z, code := impl.ApplyChanges(z, list)
	if code != impl.OK || len(z.Sets) != 201 {
		t.Fatalf("ApplyChanges of much = %d sets, %d", len(z.Sets), code)
	}
	for i := range list {
		list[i].Owner, list[i].Data = nm(times(127, "t")...), strings.Repeat("y", 65500)+itoa(i)
	}
	callChange(t, z, updateMessage(root, conditions, list))
	for i := range list {
		list[i] = rrOf(nm(times(i%120, "t")...), impl.TypeDNAME, root)
	}
	callChange(t, z, updateMessage(root, conditions, list))
}

// P1: nothing is written into an argument, nor behind it; an answer is new memory.
func TestP1ChangeMemory(t *testing.T) {
	r := rand.New(rand.NewSource(117))
	for n := range 800 {
		z := changeZone(t, r, apexes()[n%3], 12)
		for i := range z.Sets {
			data := append(slices.Clone(z.Sets[i].Data), "left")
			z.Sets[i].Data = data[:len(data)-1]
		}
		sets := append(slices.Clone(z.Sets), impl.Set{Owner: "left"})
		z.Sets = sets[:len(sets)-1]
		conditions := append(conditionsIn(r, z, n%2), impl.RR{Owner: "left"})
		changes := append(changesIn(r, z, 5), impl.RR{Owner: "left"})
		m := updateMessage(z.Apex, conditions[:len(conditions)-1], changes[:len(changes)-1])
		before, kept := cloneZone(z), [][]impl.RR{slices.Clone(conditions), slices.Clone(changes)}
		impl.CheckConditions(z, m.Answer)
		impl.CheckChanges(z.Apex, m.Authority)
		applied, _ := impl.ApplyChanges(z, m.Authority)
		updated, _, _ := impl.Update(z, m)
		if !sameZone(z, before) || sets[len(sets)-1].Owner != "left" || !slices.Equal(conditions, kept[0]) || !slices.Equal(changes, kept[1]) {
			t.Fatalf("a call made %s of %s", tellZone(z), tellZone(before))
		}
		wants := []impl.Zone{cloneZone(applied), cloneZone(updated)}
		for _, set := range z.Sets {
			if set.Data[:len(set.Data)+1][len(set.Data)] != "left" {
				t.Fatalf("a call wrote behind the data of %q", set.Owner)
			}
			clear(set.Data)
		}
		clear(z.Sets)
		if !sameZone(applied, wants[0]) || !sameZone(updated, wants[1]) {
			t.Fatalf("an answer shares memory with the zone %s", tellZone(before))
		}
		checkApartSets(t, applied)
		checkApartSets(t, updated)
	}
}

// checkApartSets holds that no set of a zone shares its list with another, nor writes into one behind it.
func checkApartSets(t *testing.T, z impl.Zone) {
	t.Helper()
	for i := range z.Sets {
		want := cloneZone(z)
		_ = append(z.Sets[i].Data, "more")
		z.Sets[i].Data[0] += "x"
		want.Sets[i].Data[0] += "x"
		if !sameZone(z, want) {
			t.Fatalf("two sets of an answer share memory: %s", tellZone(z))
		}
	}
}

// P15: Update leaves a valid zone, held against what conditions and changes say by themselves.
func TestP15ValidZone(t *testing.T) {
	r := rand.New(rand.NewSource(118))
	other := 0
	for n := range 2500 {
		z := changeZone(t, r, apexes()[n%3], 10)
		m := updateMessage(z.Apex, conditionsIn(r, z, n%4), changesIn(r, z, 8))
		if n%5 == 0 {
			spoilMessage(r, &m)
		}
		out, rc, code := impl.Update(z, m)
		if code != impl.OK {
			continue
		}
		if impl.CheckZone(out) != impl.OK {
			t.Fatalf("Update(%s, %s) leaves %s", tellZone(z), tellRecords(m.Authority), tellZone(out))
		}
		if rc != impl.NoError && !sameZone(out, z) {
			t.Fatalf("Update(%s, %s) = %s with %d", tellZone(z), tellRecords(m.Authority), tellZone(out), rc)
		}
		if !sameZone(out, z) {
			other++
			if !impl.SerialLess(serialOf(z), serialOf(out)) {
				t.Fatalf("Update(%s, %s): from %d to %d", tellZone(z), tellRecords(m.Authority), serialOf(z), serialOf(out))
			}
		}
		if len(m.Questions) != 1 || m.Questions[0] != (impl.Question{Name: z.Apex, Type: 6, Class: 1}) {
			continue
		}
		first, _ := impl.CheckConditions(z, m.Answer)
		second, _ := impl.CheckChanges(z.Apex, m.Authority)
		want, _ := impl.ApplyChanges(z, m.Authority)
		if first != 0 || second != 0 {
			want = z
		}
		if first == 0 {
			first = second
		}
		if rc != first || !sameZone(out, want) {
			t.Fatalf("Update(%s, %s, %s) = %s, %d", tellZone(z), tellRecords(m.Answer), tellRecords(m.Authority), tellZone(out), rc)
		}
	}
	if other < 600 {
		t.Errorf("only %d messages made another zone", other)
	}
}

// P15: one change behind the other, the serial always comes behind, round and round.
func TestP15InTurn(t *testing.T) {
	r := rand.New(rand.NewSource(119))
	for n := range 60 {
		z := changeZone(t, r, apexes()[n%3], 6)
		for range 40 {
			out, rc, code := impl.Update(z, updateMessage(z.Apex, nil, changesIn(r, z, 4)))
			if rc != impl.NoError || code != impl.OK || impl.CheckZone(out) != impl.OK {
				t.Fatalf("Update of %s = %s, %d, %d", tellZone(z), tellZone(out), rc, code)
			}
			if !sameZone(out, z) && !impl.SerialLess(serialOf(z), serialOf(out)) {
				t.Fatalf("from %s to %s", tellZone(z), tellZone(out))
			}
			z = out
		}
	}
}

// hasDatum tells whether a zone has a datum (folded), by FindSet.
func hasDatum(z impl.Zone, rr impl.RR) bool {
	set, ok := impl.FindSet(z, rr.Owner, rr.Type)
	return ok && slices.ContainsFunc(set.Data, func(data string) bool {
		return impl.FoldData(rr.Type, data) == impl.FoldData(rr.Type, rr.Data)
	})
}

// countsIn tells whether an addition counts, by BuildZone: a zone that has it would be one.
func countsIn(z impl.Zone, rr impl.RR) bool {
	isSet := func(o impl.RR) bool { return small(o.Owner) == small(rr.Owner) && o.Type == rr.Type }
	var list []impl.RR
	for _, o := range impl.ZoneRecords(z) {
		switch isOnly := slices.Contains([]int64{5, 6, 39}, o.Type); {
		case !isSet(o):
			list = append(list, o)
		case !isOnly && impl.FoldData(o.Type, o.Data) != impl.FoldData(rr.Type, rr.Data):
			list = append(list, inTime(o, rr.TTL))
		}
	}
	_, code, _ := impl.BuildZone(append(list, rr), z.Apex)
	return code == impl.OK
}

// P16: FindSet behind ApplyChanges finds what was added, and not what was dropped.
func TestP16Found(t *testing.T) {
	r := rand.New(rand.NewSource(120))
	counts := map[bool]int{}
	for n := range 3000 {
		z := changeZone(t, r, apexes()[n%3], 10)
		ahead := changesIn(r, z, 3)
		between, _ := impl.ApplyChanges(z, ahead)
		rr := changeIn(r, between)
		out, code := impl.ApplyChanges(z, append(ahead, rr))
		if code != impl.OK {
			t.Fatalf("ApplyChanges(%s, %s) = %d", tellZone(z), tellRecords(append(ahead, rr)), code)
		}
		tell := tellZone(between) + " and " + tellRecords([]impl.RR{rr}) + " to " + tellZone(out)
		isApex := small(rr.Owner) == small(z.Apex)
		set, isThere := impl.FindSet(out, rr.Owner, rr.Type)
		switch {
		case rr.Type == impl.TypeSOA:
			if isThere != isApex {
				t.Errorf("an SOA: %s", tell)
			}
		case rr.Class == impl.ClassIN:
			does := countsIn(between, rr)
			counts[does]++
			if hasDatum(out, rr) != (does || hasDatum(between, rr)) || does && (set.TTL != rr.TTL || !slices.Contains(set.Data, rr.Data)) {
				t.Errorf("an addition that counts (%t): %s", does, tell)
			}
		case rr.Class == impl.ClassNONE:
			isLast := isApex && rr.Type == impl.TypeNS && len(recordsAt(between, z.Apex, impl.TypeNS)) == 1
			if hasDatum(out, rr) != (isLast && hasDatum(between, rr)) {
				t.Errorf("a datum dropped: %s", tell)
			}
		case rr.Type != impl.TypeANY:
			if isThere != (isApex && rr.Type == impl.TypeNS) {
				t.Errorf("a set dropped: %s", tell)
			}
		default:
			left := setsAt(out, rr.Owner)
			if isApex && (len(left) != 2 || left[0].Type != impl.TypeNS || left[1].Type != impl.TypeSOA) || !isApex && len(left) > 0 {
				t.Errorf("an owner dropped: %s", tell)
			}
		}
	}
	if counts[true] < 500 || counts[false] < 100 {
		t.Errorf("%d additions counted, %d did not", counts[true], counts[false])
	}
}

// P16: of many additions that don't meet each one is found, and all else is as it was.
func TestP16All(t *testing.T) {
	r := rand.New(rand.NewSource(121))
	for n := range 300 {
		z := changeZone(t, r, apexes()[n%3], 10)
		var list []impl.RR
		for k := range 1 + r.Intn(20) {
			list = append(list, rrOf(st("new"+itoa(k/2))+z.Apex, impl.TypeTXT, st(itoa(k))))
		}
		out, _ := impl.ApplyChanges(z, list)
		if setsAt(z, z.Apex, impl.TypeDNAME) != nil {
			if !sameZone(out, z) {
				t.Errorf("below a DNAME: %s", tellZone(out))
			}
			continue
		}
		for _, rr := range list {
			if !hasDatum(out, rr) {
				t.Errorf("%s is not found in %s", tellRecords([]impl.RR{rr}), tellZone(out))
			}
		}
		for i := range list {
			list[i] = inClass(inTime(list[i], 0), impl.ClassNONE)
		}
		back, _ := impl.ApplyChanges(out, shuffled(r, list))
		at := slices.IndexFunc(z.Sets, func(s impl.Set) bool { return s.Type == impl.TypeSOA })
		z.Sets[at].Data = back.Sets[at].Data
		if !sameZone(back, z) {
			t.Errorf("there and back: %s, then %s", tellZone(z), tellZone(back))
		}
	}
}
