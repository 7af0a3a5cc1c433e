package tests

import (
	"fmt"
	"math/rand"
	"slices"
	"strings"
	"testing"

	"loop.example/s01858/impl"
)

// zoneText is the zone of a text, whose apex is `example.`.
func zoneText(t *testing.T, text string) impl.Zone {
	t.Helper()
	list, code, line := impl.ReadMaster(text, inEx())
	if code != impl.OK {
		t.Fatalf("ReadMaster = %d in line %d", code, line)
	}
	return mustBuild(t, list, inEx())
}

// zoneAnd is the zone of an SOA, an NS and the records of a text, whose apex is `example.`.
func zoneAnd(t *testing.T, text string) impl.Zone {
	t.Helper()
	return zoneText(t, "$TTL 3600\n@ SOA ns admin 7 7200 900 86400 300\n@ NS ns.elsewhere.\n"+text)
}

// named is the name of a text, which is taken relative to `example.`.
func named(t *testing.T, text string) string {
	t.Helper()
	name, code := impl.ReadName(text, inEx())
	if code != impl.OK {
		t.Fatalf("ReadName(%q) = %d", text, code)
	}
	return name
}

// typed is the type of a text.
func typed(t *testing.T, text string) int64 {
	t.Helper()
	rtype, code := impl.ReadType(text)
	if code != impl.OK {
		t.Fatalf("ReadType(%q) = %d", text, code)
	}
	return rtype
}

// records is the records of a text, relative to `example.`.
func records(t *testing.T, text string) []impl.RR {
	t.Helper()
	list, code, line := impl.ReadMaster("$TTL 3600\n"+text, inEx())
	if code != impl.OK {
		t.Fatalf("ReadMaster(%q) = %d in line %d", text, code, line)
	}
	return list
}

func sameStep(a, b impl.Step) bool {
	return a.Kind == b.Kind && slices.EqualFunc(a.Sets, b.Sets, sameSet) && a.Wild == b.Wild && a.Target == b.Target
}

func sameResult(a, b impl.Result) bool {
	return a.Code == b.Code && a.AA == b.AA && slices.Equal(a.Answer, b.Answer) && slices.Equal(a.Authority, b.Authority) &&
		slices.Equal(a.Extra, b.Extra) && a.Last == b.Last
}

// tellResult writes a result for a message of a test.
func tellResult(r impl.Result) string {
	return fmt.Sprintf("code %d, AA %t, last %q; answer %s; authority %s; extra %s",
		r.Code, r.AA, r.Last, tellRecords(r.Answer), tellRecords(r.Authority), tellRecords(r.Extra))
}

// cloneStep is a step in memory of its own.
func cloneStep(s impl.Step) impl.Step {
	s.Sets = cloneZone(impl.Zone{Sets: s.Sets}).Sets
	return s
}

// cloneResult is a result in memory of its own.
func cloneResult(r impl.Result) impl.Result {
	r.Answer, r.Authority, r.Extra = slices.Clone(r.Answer), slices.Clone(r.Authority), slices.Clone(r.Extra)
	return r
}

// setsAt is the sets of an owner, in the zone's order; all of them, or those of some types.
func setsAt(z impl.Zone, owner string, types ...int64) []impl.Set {
	var out []impl.Set
	for _, set := range z.Sets {
		if small(set.Owner) == small(owner) && (len(types) == 0 || slices.Contains(types, set.Type)) {
			out = append(out, set)
		}
	}
	return out
}

// recordsAt is the records of an owner's sets.
func recordsAt(z impl.Zone, owner string, types ...int64) []impl.RR {
	return impl.ZoneRecords(impl.Zone{Sets: setsAt(z, owner, types...)})
}

// stepAt says the third case of chapter 9 once more, of the sets at a node.
func stepAt(z impl.Zone, node string, qtype int64) impl.Step {
	sets := setsAt(z, node, qtype)
	if qtype == 255 {
		sets = setsAt(z, node)
	}
	alias := setsAt(z, node, impl.TypeCNAME)
	switch {
	case len(sets) > 0:
		return impl.Step{Kind: 3, Sets: sets}
	case len(alias) > 0:
		return impl.Step{Kind: 4, Sets: alias, Target: alias[0].Data[0]}
	}
	return impl.Step{Kind: 5}
}

// stepOf says chapter 9 on LookStep once more, of a valid zone, a name, and a type that may be asked.
func stepOf(z impl.Zone, name string, qtype int64) impl.Step {
	node := nodeOf(z, name)
	switch {
	case !under(name, z.Apex):
		return impl.Step{Kind: 1}
	case node.Cut != "":
		return impl.Step{Kind: 2, Sets: setsAt(z, node.Cut, impl.TypeNS)}
	case node.Closest == name:
		return stepAt(z, name, qtype)
	}
	if tail := setsAt(z, node.Closest, impl.TypeDNAME); len(tail) > 0 {
		target := strings.TrimSuffix(name, node.Closest) + tail[0].Data[0]
		if len(target) > 255 {
			return impl.Step{Kind: 7, Sets: tail}
		}
		return impl.Step{Kind: 6, Sets: tail, Target: target}
	}
	wild := "\x01*" + node.Closest
	if nodeOf(z, wild).Closest != wild {
		return impl.Step{Kind: 8}
	}
	step := stepAt(z, wild, qtype)
	step.Wild = true
	step.Sets = slices.Clone(step.Sets)
	for i := range step.Sets {
		step.Sets[i].Owner = name
	}
	return step
}

// soaBeside is the SOA's record as it stands beside a denial.
func soaBeside(z impl.Zone) impl.RR {
	rr := recordsAt(z, z.Apex, impl.TypeSOA)[0]
	rr.TTL = min(rr.TTL, beAt(rr.Data, len(rr.Data)-4, 4))
	return rr
}

// resultOf says chapter 9 on Resolve once more, of a valid zone, a name, and a type that may be asked.
func resultOf(z impl.Zone, name string, qtype int64) impl.Result {
	out := impl.Result{Last: name}
	var asked []string
	for {
		step := stepOf(z, out.Last, qtype)
		out.Answer = append(out.Answer, map[bool][]impl.RR{true: impl.ZoneRecords(impl.Zone{Sets: step.Sets})}[step.Kind != 2]...)
		asked = append(asked, small(out.Last))
		if len(asked) == 1 {
			out.AA = step.Kind > 2
		}
		switch step.Kind {
		case 1:
			if len(asked) == 1 {
				out.Code = 5
			}
		case 2:
			out.Authority = impl.ZoneRecords(impl.Zone{Sets: step.Sets})
		case 5:
			out.Authority = []impl.RR{soaBeside(z)}
		case 6:
			out.Answer = append(out.Answer, impl.RR{Owner: out.Last, Type: 5, Class: 1, TTL: step.Sets[0].TTL, Data: step.Target})
		case 7:
			out.Code = 6
		case 8:
			out.Code, out.Authority = 3, []impl.RR{soaBeside(z)}
		}
		if step.Kind != 4 && step.Kind != 6 || len(asked) == 16 || slices.Contains(asked, small(step.Target)) {
			out.Extra = extraOf(z, out.Answer, out.Authority)
			return out
		}
		out.Last = step.Target
	}
}

// extraOf says chapter 9 on the addresses beside an answer once more.
func extraOf(z impl.Zone, answer, authority []impl.RR) []impl.RR {
	var out []impl.RR
	done := map[string]bool{}
	take := func(list []impl.RR, types string, belowCuts bool) {
		for _, rr := range list {
			at := strings.IndexByte(types, byte(rr.Type))
			if rr.Type > 255 || at < 0 {
				continue
			}
			target := rr.Data[map[int64]int{impl.TypeNS: 0, impl.TypeMX: 2, impl.TypeSRV: 6}[rr.Type]:]
			if done[small(target)] || !under(target, z.Apex) || !belowCuts && nodeOf(z, target).Cut != "" {
				continue
			}
			done[small(target)] = true
			for _, found := range append(recordsAt(z, target, impl.TypeA), recordsAt(z, target, impl.TypeAAAA)...) {
				stands := func(in impl.RR) bool { return in.Type == found.Type && small(in.Owner) == small(found.Owner) }
				if !slices.ContainsFunc(answer, stands) {
					out = append(out, found)
				}
			}
		}
	}
	take(answer, "\x02\x0f\x21", false)
	take(authority, "\x02", true)
	return out
}

// lookRecord makes a record for a zone that is asked: often an alias, a cut, or one that names a server.
func lookRecord(r *rand.Rand, apex string) impl.RR {
	target := ownerIn(r, apex, 2)
	if r.Intn(12) == 0 {
		target = nm("elsewhere")
	}
	owner := ownerIn(r, apex, 3)
	switch r.Intn(12) {
	case 0, 1:
		return rrOf(owner, impl.TypeA, be(int64(r.Intn(3)), 4))
	case 2:
		return rrOf(owner, impl.TypeAAAA, be(int64(r.Intn(3)), 16))
	case 3, 4, 5:
		return rrOf(owner, impl.TypeCNAME, target)
	case 6:
		return rrOf(owner, impl.TypeDNAME, target)
	case 7:
		return rrOf(owner, impl.TypeNS, target)
	case 8:
		return rrOf(owner, impl.TypeMX, be(int64(r.Intn(3)), 2)+target)
	case 9:
		return rrOf(owner, impl.TypeSRV, be(int64(r.Intn(3)), 6)+target)
	case 10:
		return rrOf(owner, impl.TypeNSEC, target)
	}
	return rrOf(owner, impl.TypeTXT, st("text"))
}

// lookZone makes a zone that is asked.
func lookZone(t *testing.T, r *rand.Rand, apex string, most int) impl.Zone {
	t.Helper()
	soa := soaOf(apex, 1)
	soa.TTL = int64(r.Intn(600))
	list := []impl.RR{soa, rrOf(apex, impl.TypeNS, ownerIn(r, apex, 2))}
	for range most {
		more := append(slices.Clone(list), lookRecord(r, apex))
		if _, code, _ := impl.BuildZone(more, apex); code == impl.OK {
			list = more
		}
	}
	return mustBuild(t, shuffled(r, list), apex)
}

// askedIn makes a name to ask of a zone: one of its owners, one below, one that its data has, or another.
func askedIn(r *rand.Rand, z impl.Zone) string {
	set := z.Sets[r.Intn(len(z.Sets))]
	switch r.Intn(8) {
	case 0, 1:
		return inLetters(r, rrOf(set.Owner, 99, "")).Owner
	case 2:
		if name := st("q") + set.Owner; len(name) <= 255 {
			return name
		}
	case 3:
		if spans := impl.DataNames(set.Type, set.Data[0]); len(spans) > 0 {
			return set.Data[0][spans[0].From:spans[0].To]
		}
	case 4:
		return anyName(r)
	}
	return ownerIn(r, z.Apex, 4)
}

// lookTypes are types that are asked.
func lookTypes() []int64 {
	return []int64{1, 1, 1, 2, 5, 6, 15, 16, 28, 33, 39, 47, 255, 255, 252, 65535}
}
