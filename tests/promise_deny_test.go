package tests

import (
	"math/rand"
	"slices"
	"testing"

	"loop.example/s01858/impl"
)

// callDeny calls all functions of chapter 10: with a code there is nothing beside.
func callDeny(t *testing.T, z impl.Zone, name string, qtype int64, proof []impl.RR) {
	t.Helper()
	valid := impl.CheckZone(z) == impl.OK
	out, code := impl.ChainZone(z)
	if valid == (code == impl.ErrForm) || code != impl.OK && !sameZone(out, impl.Zone{}) {
		t.Errorf("ChainZone(%s) = %s, %d", tellZone(z), tellZone(out), code)
	}
	_, want := impl.LookStep(z, name, qtype)
	list, code := impl.DenyProof(z, name, qtype)
	if code != want || code != impl.OK && len(list) > 0 {
		t.Errorf("DenyProof(%s, %.80q, %d) = %s, %d", tellZone(z), name, qtype, tellRecords(list), code)
	}
	if verdict := impl.CheckProof(z.Apex, name, qtype, proof); verdict < 0 || verdict > 2 {
		t.Errorf("CheckProof(%.80q, %.80q, %d, %s) = %d", z.Apex, name, qtype, tellRecords(proof), verdict)
	}
}

// P1: no call panics, and every call ends, whatever it is given.
func TestP1Deny(t *testing.T) {
	r := rand.New(rand.NewSource(94))
	names := append(noNames(), someNames()...)
	for n := range 4000 {
		z := impl.Zone{Apex: names[r.Intn(len(names))]}
		if n%2 == 0 {
			z = denyZone(t, r, apexes()[n%3], 6)
		}
		if n%4 == 0 {
			bendZone(r, &z)
		}
		name := names[r.Intn(len(names))]
		if n%3 == 0 {
			name = ownerIn(r, z.Apex, 2)
		}
		var proof []impl.RR
		for range r.Intn(4) {
			rr := linkIn(r, apexes()[n%3])
			switch r.Intn(4) {
			case 0:
				rr.Owner = names[r.Intn(len(names))]
			case 1:
				rr.Data = names[r.Intn(len(names))] + rr.Data[r.Intn(len(rr.Data)+1):]
			}
			proof = append(proof, rr)
		}
		callDeny(t, z, name, oddNumbers()[r.Intn(len(oddNumbers()))], proof)
	}
	callDeny(t, impl.Zone{}, "", 0, nil)
}

// P1: calls with much end, too.
func TestP1DenyMuch(t *testing.T) {
	callDeny(t, impl.Zone{Apex: inEx(), Sets: make([]impl.Set, 3000000)}, inEx(), 1, make([]impl.RR, 3000000))
	var list, proof []impl.RR
	var types []int64
	for n := range 248 {
		owner := nm(append(times(100, "t"), itoa(n))...)
		list = append(list, rrOf(owner, int64(300+256*n), ""))
		types = append(types, int64(300+256*n))
	}
	z := chained(t, mustBuild(t, begun(root, list...), root))
	callDeny(t, z, nm(times(127, "a")...), 1, nil)
	bits, _ := impl.TypeMap(types)
	for n := range 20 {
		proof = append(proof, rrOf(nm(times(n, "a")...), impl.TypeNSEC, nm(times(100, "z")...)+bits))
	}
	callDeny(t, z, nm(times(127, "b")...), 1, proof)
	// One owner with as many types as a zone has room for.
	list = nil
	for n := range 497 {
		list = append(list, rrOf(root, int64(300+100*n), ""))
	}
	z = chained(t, mustBuild(t, begun(root, list...), root))
	if got := typesOf(nsecsOf(z)[0]); len(got) != 500 {
		t.Errorf("the map of the apex has %d types", len(got))
	}
}

// P1: nothing is written into an argument, nor behind it; an answer is new memory.
func TestP1DenyMemory(t *testing.T) {
	r := rand.New(rand.NewSource(95))
	for n := range 600 {
		z := denyZone(t, r, apexes()[n%3], 20)
		if n%2 == 0 {
			z = chained(t, z)
		}
		for i := range z.Sets {
			data := append(slices.Clone(z.Sets[i].Data), "left")
			z.Sets[i].Data = data[:len(data)-1]
		}
		sets := append(slices.Clone(z.Sets), impl.Set{Owner: "left"})
		z.Sets = sets[:len(sets)-1]
		before := cloneZone(z)
		name, qtype := deniedIn(r, z), lookTypes()[r.Intn(len(lookTypes()))]
		out, _ := impl.ChainZone(z)
		list, _ := impl.DenyProof(z, name, qtype)
		proof := append(slices.Clone(list), linkIn(r, z.Apex), impl.RR{Owner: "left"})
		kept := slices.Clone(proof)
		impl.CheckProof(z.Apex, name, qtype, proof[:len(proof)-1])
		if !sameZone(z, before) || sets[len(sets)-1].Owner != "left" || !slices.Equal(proof, kept) {
			t.Fatalf("a call made %s of %s", tellZone(z), tellZone(before))
		}
		wantZone, wantList := cloneZone(out), slices.Clone(list)
		for _, set := range z.Sets {
			if set.Data[:len(set.Data)+1][len(set.Data)] != "left" {
				t.Fatalf("a call wrote behind the data of %q", set.Owner)
			}
			clear(set.Data)
		}
		clear(z.Sets)
		if !sameZone(out, wantZone) || !slices.Equal(list, wantList) {
			t.Fatalf("an answer changed with the zone")
		}
		checkApart(t, impl.Step{Sets: out.Sets}, impl.Result{})
	}
}

// verdictOf is what a zone itself says of a name and a type, as LookStep tells it.
func verdictOf(t *testing.T, z impl.Zone, name string, qtype int64) int64 {
	t.Helper()
	step, code := impl.LookStep(z, name, qtype)
	if code != impl.OK {
		t.Fatalf("LookStep(%q, %d) = %d", name, qtype, code)
	}
	switch step.Kind {
	case impl.StepNoData:
		return impl.ProofNoData
	case impl.StepNoName:
		return impl.ProofNoName
	}
	return impl.ProofNone
}

// askedOnce are the types that a proof is asked for.
func askedOnce() []int64 { return []int64{1, 2, 5, 6, 15, 16, 28, 33, 39, 47, 65535} }

// P12: in a chained zone DenyProof's records prove just what the zone says.
func TestP12Proved(t *testing.T) {
	r := rand.New(rand.NewSource(96))
	kinds := map[int64]int{}
	for n := range 400 {
		z := chained(t, denyZone(t, r, apexes()[n%3], n%40))
		for range 40 {
			name, qtype := deniedIn(r, z), askedOnce()[r.Intn(len(askedOnce()))]
			proof, code := impl.DenyProof(z, name, qtype)
			got, want := impl.CheckProof(z.Apex, name, qtype, proof), verdictOf(t, z, name, qtype)
			if code != impl.OK || got != want || (want == impl.ProofNone) != (len(proof) == 0) {
				t.Fatalf("of %q, %d in %s CheckProof of %s = %d, want %d", name, qtype, tellZone(z), tellRecords(proof), got, want)
			}
			kinds[got]++
		}
	}
	if kinds[impl.ProofNoData] < 800 || kinds[impl.ProofNoName] < 800 {
		t.Errorf("proofs by their kinds: %v", kinds)
	}
}

// P12: every name that is there, near it and below it, of every kind in one zone.
func TestP12EveryName(t *testing.T) {
	for _, text := range []string{deniedZone, "", "a A 192.0.2.1\n", "*.a CNAME b\nx.*.c TXT t\n*.*.c TXT t\n"} {
		z := chained(t, zoneAnd(t, text))
		names, _ := impl.ZoneNames(z)
		for _, name := range names {
			for _, label := range []string{"", "*", "!", "m", "zz", "b"} {
				asked := name
				if label != "" {
					asked = st(label) + name
				}
				for _, qtype := range askedOnce() {
					proof, _ := impl.DenyProof(z, asked, qtype)
					if got, want := impl.CheckProof(z.Apex, capital(asked), qtype, proof), verdictOf(t, z, asked, qtype); got != want {
						t.Errorf("of %q, %d CheckProof of %s = %d, want %d", asked, qtype, tellRecords(proof), got, want)
					}
				}
			}
		}
	}
}

// P13: whatever records of the chain are chosen, in any order and also twice, they prove what the zone says or nothing.
func TestP13Choices(t *testing.T) {
	r := rand.New(rand.NewSource(97))
	kinds := map[int64]int{}
	for n := range 400 {
		z := chained(t, denyZone(t, r, apexes()[n%3], n%40))
		chain := nsecsOf(z)
		for range 60 {
			name, qtype := deniedIn(r, z), askedOnce()[r.Intn(len(askedOnce()))]
			proof := shuffled(r, chain)
			proof = proof[:min(r.Intn(len(proof)+1), 20)]
			if len(proof) > 0 && len(proof) < 20 {
				proof = append(proof, proof[r.Intn(len(proof))])
			}
			got := impl.CheckProof(z.Apex, name, qtype, proof)
			if want := verdictOf(t, z, name, qtype); got != want && got != impl.ProofNone {
				t.Fatalf("of %q, %d in %s CheckProof of %s = %d, want %d", name, qtype, tellZone(z), tellRecords(proof), got, want)
			}
			kinds[got]++
		}
	}
	if kinds[impl.ProofNoData] < 800 || kinds[impl.ProofNoName] < 800 {
		t.Errorf("proofs by their kinds: %v", kinds)
	}
}

// P13: every one and every two records of a zone's chain.
func TestP13EveryTwo(t *testing.T) {
	z := chained(t, zoneAnd(t, deniedZone))
	chain := nsecsOf(z)
	for _, name := range []string{"q", "b", "x.b", "c.b", "h.w", "q.w", "q.h.w", "*.w", "a.al", "q.e", "*.e", "s", "x.s", "old", "x.old", "t", "y.t", "q.y.t", "zz", "*", "@"} {
		for _, qtype := range []int64{1, 5, 15, 16} {
			want := verdictOf(t, z, named(t, name), qtype)
			proved := false
			for _, a := range chain {
				for _, b := range chain {
					got := impl.CheckProof(z.Apex, named(t, name), qtype, []impl.RR{a, b})
					if got != want && got != impl.ProofNone {
						t.Errorf("of %s, %d CheckProof of %s = %d, want %d", name, qtype, tellRecords([]impl.RR{a, b}), got, want)
					}
					proved = proved || got == want
				}
			}
			if !proved {
				t.Errorf("no two records prove %d of %s, %d", want, name, qtype)
			}
		}
	}
}
