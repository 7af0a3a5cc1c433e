package tests

import (
	"math/rand"
	"slices"
	"strings"
	"testing"

	"loop.example/s01858/impl"
)

// chained is the zone that ChainZone makes of another one.
func chained(t *testing.T, z impl.Zone) impl.Zone {
	t.Helper()
	out, code := impl.ChainZone(z)
	if code != impl.OK || impl.CheckZone(out) != impl.OK {
		t.Fatalf("ChainZone(%s) = %s, %d", tellZone(z), tellZone(out), code)
	}
	return out
}

// nsecsOf is the NSEC records of a zone, in its order.
func nsecsOf(z impl.Zone) []impl.RR {
	return slices.DeleteFunc(impl.ZoneRecords(z), func(rr impl.RR) bool { return rr.Type != impl.TypeNSEC })
}

// nextOf is the next name that the data of an NSEC record has.
func nextOf(rr impl.RR) string { return rr.Data[:impl.DataNames(impl.TypeNSEC, rr.Data)[0].To] }

// typesOf is the types that the map of an NSEC record has.
func typesOf(rr impl.RR) []int64 {
	types, _ := impl.MapTypes(rr.Data[len(nextOf(rr)):])
	return types
}

// chainOf says chapter 10 on ChainZone once more: the records of the zone that it makes, in any order.
func chainOf(z impl.Zone) []impl.RR {
	list := slices.DeleteFunc(impl.ZoneRecords(z), func(rr impl.RR) bool { return rr.Type == 47 })
	types, owners := map[string][]int64{}, []string(nil)
	for _, rr := range list {
		if node := nodeOf(z, rr.Owner); node.Cut != "" && small(node.Cut) != small(rr.Owner) {
			continue
		}
		if types[small(rr.Owner)] == nil {
			owners = append(owners, rr.Owner)
		}
		types[small(rr.Owner)] = append(types[small(rr.Owner)], rr.Type)
	}
	time := soaBeside(z).TTL
	for i, owner := range owners {
		has := append(types[small(owner)], 47)
		if nodeOf(z, owner).Cut != "" {
			has = []int64{2, 47}
		}
		bits, _ := impl.TypeMap(has)
		next := append(owners, owners[0])[i+1]
		list = append(list, impl.RR{Owner: owner, Type: 47, Class: 1, TTL: time, Data: next + bits})
	}
	return list
}

// isBetween says once more what it is that an NSEC record covers a name.
func isBetween(apex string, rr impl.RR, name string) bool {
	o, n := rr.Owner, nextOf(rr)
	if !under(o, apex) || !under(n, apex) || !under(name, apex) || impl.CompareNames(o, name) != -1 {
		return false
	}
	return impl.CompareNames(name, n) == -1 || impl.CompareNames(n, o) != 1
}

// denyOf says chapter 10 on DenyProof once more, of a valid zone, a name, and a type that may be asked.
func denyOf(z impl.Zone, name string, qtype int64) []impl.RR {
	step := stepOf(z, name, qtype)
	if step.Kind != 5 && step.Kind != 8 {
		return nil
	}
	names := []string{name}
	if step.Wild || step.Kind == 8 {
		names = append(names, "\x01*"+nodeOf(z, name).Closest)
	}
	var out []impl.RR
	for _, x := range names {
		var own, cover []impl.RR
		for _, rr := range nsecsOf(z) {
			if small(rr.Owner) == small(x) {
				own = append(own, rr)
			}
			if isBetween(z.Apex, rr, x) {
				cover = append(cover, rr)
			}
		}
		both := append(own, cover...)
		if len(both) > 0 && !slices.Contains(out, both[0]) {
			out = append(out, both[0])
		}
	}
	if len(out) == 2 && impl.CompareNames(out[0].Owner, out[1].Owner) > 0 {
		out[0], out[1] = out[1], out[0]
	}
	return out
}

// isOfUse says once more what it is that a record is of use for a name.
func isOfUse(rr impl.RR, name string) bool {
	has := func(rtype int64) bool { return slices.Contains(typesOf(rr), rtype) }
	strictly := under(name, rr.Owner) && small(name) != small(rr.Owner)
	return !(under(name, rr.Owner) && has(2) && !has(6)) && !(strictly && has(39))
}

// checkOf says chapter 10 on CheckProof once more, of names, a type and records that it takes.
func checkOf(apex, name string, qtype int64, proof []impl.RR) int64 {
	x := name
	for round := range 2 {
		var own, cover []impl.RR
		for _, rr := range proof {
			if isOfUse(rr, x) && small(rr.Owner) == small(x) {
				own = append(own, rr)
			}
			if isOfUse(rr, x) && isBetween(apex, rr, x) {
				cover = append(cover, rr)
			}
		}
		if len(own) > 0 {
			if slices.Contains(typesOf(own[0]), qtype) || slices.Contains(typesOf(own[0]), 5) {
				return 0
			}
			return 1
		}
		if len(cover) == 0 {
			return 0
		}
		next := nextOf(cover[0])
		if under(next, x) && small(next) != small(x) {
			return 1
		}
		if round == 0 {
			e := above(name)[1]
			for !under(cover[0].Owner, e) && !under(next, e) {
				e = above(e)[1]
			}
			x = "\x01*" + e
		}
	}
	return 2
}

// denyZone makes a zone that denies, often with NSEC records of its own that nobody chained.
func denyZone(t *testing.T, r *rand.Rand, apex string, most int) impl.Zone {
	t.Helper()
	z := lookZone(t, r, apex, most)
	if r.Intn(2) == 0 {
		return z
	}
	list := impl.ZoneRecords(z)
	for range 1 + r.Intn(6) {
		more := append(slices.Clone(list), linkIn(r, apex))
		if built, code, _ := impl.BuildZone(more, apex); code == impl.OK {
			list = impl.ZoneRecords(built)
		}
	}
	return mustBuild(t, list, apex)
}

// linkIn makes an NSEC record in a zone, as no chain has it.
func linkIn(r *rand.Rand, apex string) impl.RR {
	owner, next := ownerIn(r, apex, 3), ownerIn(r, apex, 3)
	switch r.Intn(8) {
	case 0:
		next = owner
	case 1:
		next = apex
	case 2:
		owner = apex
	}
	var types []int64
	for _, rtype := range []int64{1, 2, 5, 6, 16, 39, 47} {
		if r.Intn(4) == 0 {
			types = append(types, rtype)
		}
	}
	bits, _ := impl.TypeMap(types)
	return inLetters(r, rrOf(owner, impl.TypeNSEC, next+bits))
}

// deniedIn makes a name to ask of a zone that denies: one that is there, one near to an owner, or another.
func deniedIn(r *rand.Rand, z impl.Zone) string {
	owner := z.Sets[r.Intn(len(z.Sets))].Owner
	switch r.Intn(6) {
	case 0:
		for range r.Intn(3) {
			if len(labelsOf(owner)) > len(labelsOf(z.Apex)) {
				owner = above(owner)[1]
			}
		}
		return owner
	case 1:
		if len(labelsOf(owner)) > len(labelsOf(z.Apex)) {
			return st(string([]byte{owner[1] + byte(r.Intn(3)) - 1})) + above(owner)[1]
		}
	case 2:
		if name := st([]string{"*", "a", "zz"}[r.Intn(3)]) + owner; len(name) <= 255 {
			return strings.Clone(name)
		}
	}
	return askedIn(r, z)
}
