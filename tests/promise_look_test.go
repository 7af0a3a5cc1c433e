package tests

import (
	"math/rand"
	"slices"
	"testing"

	"loop.example/s01858/impl"
)

// callLook calls both functions of chapter 9: with a code there is nothing beside.
func callLook(t *testing.T, z impl.Zone, name string, qtype int64) {
	t.Helper()
	fit := impl.CheckZone(z) == impl.OK && isName(name) && qtype >= 1 && qtype <= 65535
	step, stepCode := impl.LookStep(z, name, qtype)
	r, code := impl.Resolve(z, name, qtype)
	if stepCode != code || fit != (code == impl.OK) || !fit && code != impl.ErrForm {
		t.Errorf("LookStep(%s, %.80q, %d) = %d, Resolve = %d", tellZone(z), name, qtype, stepCode, code)
	}
	if !fit && (!sameStep(step, impl.Step{}) || !sameResult(r, impl.Result{})) {
		t.Errorf("LookStep(%s, %.80q, %d) = %+v, Resolve = %s beside a code", tellZone(z), name, qtype, step, tellResult(r))
	}
}

// P1: no call panics, and every call ends, whatever it is given.
func TestP1Look(t *testing.T) {
	r := rand.New(rand.NewSource(81))
	names := append(noNames(), someNames()...)
	for n := range 4000 {
		z := impl.Zone{Apex: names[r.Intn(len(names))]}
		if n%2 == 0 {
			z = lookZone(t, r, apexes()[n%3], 6)
		}
		if n%4 == 0 {
			bendZone(r, &z)
		}
		name := names[r.Intn(len(names))]
		if n%3 == 0 {
			name = ownerIn(r, z.Apex, 2)
		}
		callLook(t, z, name, oddNumbers()[r.Intn(len(oddNumbers()))])
	}
	callLook(t, impl.Zone{}, "", 0)
}

// P1: calls with much end, too.
func TestP1LookMuch(t *testing.T) {
	callLook(t, impl.Zone{Apex: inEx(), Sets: make([]impl.Set, 3000000)}, inEx(), 1)
	var list []impl.RR
	for n := range 249 {
		target := inEx(itoa(n))
		list = append(list, rrOf(inEx(), impl.TypeMX, be(int64(n), 2)+target), aRecord(target, 60))
	}
	z := mustBuild(t, begun(inEx(), list...), inEx())
	r, code := impl.Resolve(z, inEx(), impl.TypeMX)
	if code != impl.OK || len(r.Answer) != 249 || len(r.Extra) != 249 {
		t.Errorf("Resolve has %d answers and %d addresses, %d", len(r.Answer), len(r.Extra), code)
	}
	list = nil
	for n := range 498 {
		list = append(list, rrOf(nm(append(times(100, "t"), itoa(n))...), impl.TypeCNAME, nm(append(times(100, "T"), itoa(n+1))...)))
	}
	z = mustBuild(t, begun(root, list...), root)
	callLook(t, z, list[0].Owner, 1)
	callLook(t, z, nm(times(127, "a")...), 1)
}

// P1: nothing is written into an argument, nor behind it; an answer is new memory.
func TestP1LookMemory(t *testing.T) {
	r := rand.New(rand.NewSource(82))
	for n := range 600 {
		z := lookZone(t, r, apexes()[n%3], 20)
		for i := range z.Sets {
			data := append(slices.Clone(z.Sets[i].Data), "left")
			z.Sets[i].Data = data[:len(data)-1]
		}
		sets := append(slices.Clone(z.Sets), impl.Set{Owner: "left"})
		z.Sets = sets[:len(sets)-1]
		before := cloneZone(z)
		name, qtype := askedIn(r, z), lookTypes()[r.Intn(len(lookTypes()))]
		step, _ := impl.LookStep(z, name, qtype)
		result, _ := impl.Resolve(z, name, qtype)
		if !sameZone(z, before) || sets[len(sets)-1].Owner != "left" {
			t.Fatalf("a call made %s of %s", tellZone(z), tellZone(before))
		}
		wantStep, wantResult := cloneStep(step), cloneResult(result)
		for _, set := range z.Sets {
			if set.Data[:len(set.Data)+1][len(set.Data)] != "left" {
				t.Fatalf("a call wrote behind the data of %q", set.Owner)
			}
			clear(set.Data)
		}
		clear(z.Sets)
		if !sameStep(step, wantStep) || !sameResult(result, wantResult) {
			t.Fatalf("an answer changed with the zone")
		}
		checkApart(t, step, result)
	}
}

// checkApart spoils list by list of an answer, also behind its end: no other changes.
func checkApart(t *testing.T, step impl.Step, result impl.Result) {
	t.Helper()
	for i := range step.Sets {
		rest := cloneStep(impl.Step{Sets: step.Sets[i+1:]})
		_ = append(step.Sets[i].Data, "spoilt")
		clear(step.Sets[i].Data)
		if !sameStep(impl.Step{Sets: step.Sets[i+1:]}, rest) {
			t.Fatalf("two sets of a step share memory")
		}
	}
	lists := []*[]impl.RR{&result.Answer, &result.Authority, &result.Extra}
	for i, list := range lists {
		kept := cloneResult(result)
		_ = append(*list, impl.RR{Owner: "spoilt"})
		clear(*list)
		for k, other := range []*[]impl.RR{&kept.Answer, &kept.Authority, &kept.Extra} {
			if k != i && !slices.Equal(*other, *lists[k]) {
				t.Fatalf("two lists of a result share memory")
			}
		}
		*list = nil
	}
}

// P11: both functions answer as a second reading of the chapter does.
func TestP11SecondReading(t *testing.T) {
	r := rand.New(rand.NewSource(83))
	kinds := map[int64]int{}
	for n := range 500 {
		z := lookZone(t, r, apexes()[n%3], n%40)
		for range 40 {
			name, qtype := askedIn(r, z), lookTypes()[r.Intn(len(lookTypes()))]
			step, code := impl.LookStep(z, name, qtype)
			if want := stepOf(z, name, qtype); code != impl.OK || !sameStep(step, want) {
				t.Fatalf("LookStep(%s, %q, %d) = %+v, %d, want %+v", tellZone(z), name, qtype, step, code, want)
			}
			kinds[step.Kind]++
			result, code := impl.Resolve(z, name, qtype)
			if want := resultOf(z, name, qtype); code != impl.OK || !sameResult(result, want) {
				t.Fatalf("Resolve(%s, %q, %d) = %s, %d, want %s", tellZone(z), name, qtype, tellResult(result), code, tellResult(want))
			}
		}
	}
	for _, kind := range []int64{1, 2, 3, 4, 5, 6, 8} {
		if kinds[kind] < 50 {
			t.Errorf("only %d steps of kind %d", kinds[kind], kind)
		}
	}
}

// stepsFrom follows the steps of LookStep from a name on, as the chapter says of Resolve.
func stepsFrom(t *testing.T, z impl.Zone, name string, qtype int64) (asked []string, steps []impl.Step) {
	t.Helper()
	for {
		step, code := impl.LookStep(z, name, qtype)
		if code != impl.OK {
			t.Fatalf("LookStep(%q, %d) = %d", name, qtype, code)
		}
		asked, steps = append(asked, name), append(steps, step)
		isAsked := slices.ContainsFunc(asked, func(s string) bool { return impl.SameName(s, step.Target) })
		if step.Kind != impl.StepAlias && step.Kind != impl.StepTail || len(steps) == impl.MaxChain || isAsked {
			return asked, steps
		}
		name = step.Target
	}
}

// P11: a result is what the steps of its chain say, at most MaxChain aliases; whatever denies has the SOA.
func TestP11Chain(t *testing.T) {
	r := rand.New(rand.NewSource(84))
	for n := range 300 {
		z := lookZone(t, r, apexes()[n%3], 10+n%30)
		for range 20 {
			name, qtype := askedIn(r, z), lookTypes()[r.Intn(len(lookTypes()))]
			result, _ := impl.Resolve(z, name, qtype)
			asked, steps := stepsFrom(t, z, name, qtype)
			var answer []impl.RR
			for i, step := range steps {
				checkStepIsSo(t, z, asked[i], qtype, step)
				if step.Kind == impl.StepReferral {
					continue
				}
				answer = append(answer, impl.ZoneRecords(impl.Zone{Sets: step.Sets})...)
				if step.Kind == impl.StepTail {
					answer = append(answer, impl.RR{Owner: asked[i], Type: 5, Class: 1, TTL: step.Sets[0].TTL, Data: step.Target})
				}
			}
			last := steps[len(steps)-1]
			denied := last.Kind == impl.StepNoData || last.Kind == impl.StepNoName
			if !slices.Equal(result.Answer, answer) || result.Last != asked[len(asked)-1] || result.AA != (steps[0].Kind > 2) {
				t.Fatalf("Resolve(%s, %q, %d) = %s, its steps are %+v", tellZone(z), name, qtype, tellResult(result), steps)
			}
			if denied != (len(result.Authority) == 1 && result.Authority[0] == soaBeside(z)) || (result.Code == impl.NXDomain) != (last.Kind == impl.StepNoName) {
				t.Fatalf("Resolve(%s, %q, %d) = %s, its steps are %+v", tellZone(z), name, qtype, tellResult(result), steps)
			}
		}
	}
}

// checkStepIsSo holds a step against the zone's own records and what FindNode and FindSet say.
func checkStepIsSo(t *testing.T, z impl.Zone, name string, qtype int64, step impl.Step) {
	t.Helper()
	node, _ := impl.FindNode(z, name)
	wild := "\x01*" + node.Closest
	wrong := step.Wild && (node.Kind != impl.NodeAbsent || !isThereIn(z, wild))
	for _, set := range step.Sets {
		from := set.Owner
		if step.Wild {
			wrong = wrong || set.Owner != name
			from = wild
		}
		own, ok := impl.FindSet(z, from, set.Type)
		own.Owner = set.Owner
		wrong = wrong || !ok || !sameSet(own, set)
	}
	switch step.Kind {
	case impl.StepOutside:
		wrong = wrong || node.Kind != impl.NodeOutside
	case impl.StepReferral:
		wrong = wrong || node.Cut == "" || len(step.Sets) != 1 || step.Sets[0].Owner != node.Cut
	case impl.StepAnswer:
		wrong = wrong || len(step.Sets) == 0 || qtype != 255 && (len(step.Sets) > 1 || step.Sets[0].Type != qtype)
	case impl.StepNoData:
		_, has := impl.FindSet(z, name, qtype)
		wrong = wrong || has || len(step.Sets) > 0 || !step.Wild && node.Kind != impl.NodeData && node.Kind != impl.NodeEmpty
	case impl.StepTail:
		wrong = wrong || !impl.IsUnder(step.Target, step.Sets[0].Data[0]) || !impl.SameName(step.Sets[0].Owner, node.Closest)
	case impl.StepNoName:
		wrong = wrong || node.Kind != impl.NodeAbsent || isThereIn(z, wild) || len(step.Sets) > 0
	}
	if wrong || step.Kind != impl.StepAlias && step.Kind != impl.StepTail && step.Target != "" {
		t.Fatalf("LookStep(%s, %q, %d) = %+v", tellZone(z), name, qtype, step)
	}
}

// isThereIn tells whether a name is there: the zone's apex, an owner, or above one.
func isThereIn(z impl.Zone, name string) bool {
	names, _ := impl.ZoneNames(z)
	return slices.ContainsFunc(names, func(s string) bool { return small(s) == small(name) })
}
