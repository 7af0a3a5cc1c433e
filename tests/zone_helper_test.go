package tests

import (
	"fmt"
	"math/rand"
	"slices"
	"sort"
	"strings"
	"testing"

	"loop.example/s01858/impl"
)

// small is a text with its letters folded.
func small(s string) string {
	out := []byte(s)
	for i, c := range out {
		if c >= 'A' && c <= 'Z' {
			out[i] = c + 32
		}
	}
	return string(out)
}

// capital is a text with capital letters.
func capital(s string) string {
	out := []byte(s)
	for i, c := range out {
		if c >= 'a' && c <= 'z' {
			out[i] = c - 32
		}
	}
	return string(out)
}

// labelsOf cuts a name into its labels.
func labelsOf(name string) []string {
	var out []string
	for name != root {
		n := int(name[0]) + 1
		out = append(out, name[1:n])
		name = name[n:]
	}
	return out
}

// above is a name and all its ancestors, down to the root.
func above(name string) []string {
	out := []string{name}
	for name != root {
		name = name[1+int(name[0]):]
		out = append(out, name)
	}
	return out
}

// under tells whether a name is among another's ancestors, or the other itself.
func under(name, top string) bool {
	return slices.ContainsFunc(above(name), func(s string) bool { return small(s) == small(top) })
}

// soaOf is an SOA's record.
func soaOf(owner string, serial int64) impl.RR {
	return rrOf(owner, impl.TypeSOA, nm("ns")+nm("admin")+be(serial, 4)+soaTail[4:])
}

// begun is the records that a zone must have, and some behind them.
func begun(apex string, more ...impl.RR) []impl.RR {
	return append([]impl.RR{soaOf(apex, 1), rrOf(apex, impl.TypeNS, nm("ns"))}, more...)
}

// inTime is a record with another time.
func inTime(rr impl.RR, ttl int64) impl.RR {
	rr.TTL = ttl
	return rr
}

// inClass is a record of another class.
func inClass(rr impl.RR, class int64) impl.RR {
	rr.Class = class
	return rr
}

// cloneZone is a zone in memory of its own.
func cloneZone(z impl.Zone) impl.Zone {
	out := impl.Zone{Apex: z.Apex, Sets: slices.Clone(z.Sets)}
	for i := range out.Sets {
		out.Sets[i].Data = slices.Clone(out.Sets[i].Data)
	}
	return out
}

func sameSet(a, b impl.Set) bool {
	return a.Owner == b.Owner && a.Type == b.Type && a.TTL == b.TTL && slices.Equal(a.Data, b.Data)
}

func sameZone(a, b impl.Zone) bool {
	return a.Apex == b.Apex && slices.EqualFunc(a.Sets, b.Sets, sameSet)
}

// foldZone is a zone without regard to letters.
func foldZone(z impl.Zone) impl.Zone {
	out := cloneZone(z)
	out.Apex = small(z.Apex)
	for i, set := range out.Sets {
		out.Sets[i].Owner = small(set.Owner)
		for k, data := range set.Data {
			set.Data[k] = impl.FoldData(set.Type, data)
		}
	}
	return out
}

// tellZone writes a zone for a message of a test, not all of it if it is great.
func tellZone(z impl.Zone) string {
	out := fmt.Sprintf("%.80q with %d sets", z.Apex, len(z.Sets))
	for _, set := range z.Sets[:min(len(z.Sets), 12)] {
		out += fmt.Sprintf("; %.80q %d %d", set.Owner, set.Type, set.TTL)
		for _, data := range set.Data[:min(len(set.Data), 4)] {
			out += fmt.Sprintf(" %.80q", data)
		}
	}
	return out
}

// mustBuild is the zone of records that are fit for one.
func mustBuild(t *testing.T, list []impl.RR, apex string) impl.Zone {
	t.Helper()
	z, code, at := impl.BuildZone(list, apex)
	if code != impl.OK || at != 0 {
		t.Fatalf("BuildZone(%s, %.80q) = %d at %d", tellRecords(list), apex, code, at)
	}
	return z
}

// checkBuild holds a zone's code and place against what they should be; nothing else stands beside a code.
func checkBuild(t *testing.T, what string, list []impl.RR, apex string, code, at int64) {
	t.Helper()
	z, gotCode, gotAt := impl.BuildZone(list, apex)
	if gotCode != code || gotAt != at {
		t.Errorf("%s: BuildZone = %d at %d, want %d at %d", what, gotCode, gotAt, code, at)
	}
	if gotCode != impl.OK && !sameZone(z, impl.Zone{}) {
		t.Errorf("%s: BuildZone = %s beside %d", what, tellZone(z), gotCode)
	}
}

// recordFault says the second rule of chapter 8 once more.
func recordFault(rr impl.RR, apex string) int64 {
	switch meta := rr.Type == 41 || rr.Type >= 249 && rr.Type <= 255; {
	case !isName(rr.Owner):
		return impl.ErrName
	case rr.Class != 1:
		return impl.ErrClass
	case rr.TTL < 0 || rr.TTL > 2147483647:
		return impl.ErrTTL
	case rr.Type < 1 || rr.Type > 65535 || meta:
		return impl.ErrType
	case !isData(rr.Type, rr.Data):
		return impl.ErrData
	case !under(rr.Owner, apex):
		return impl.ErrZone
	}
	return impl.OK
}

// lister holds the records of a zone to be, those left out marked, to ask them one against another.
type lister struct {
	list []impl.RR
	out  []bool
}

// anyOf tells whether a record ahead of a place (all if it is below 0), not left out, is of that owner and type.
func (l lister) anyOf(owner string, rtype int64, ahead int) bool {
	for i, rr := range l.list {
		if (ahead < 0 || i < ahead) && !l.out[i] && rr.Type == rtype && small(rr.Owner) == small(owner) {
			return true
		}
	}
	return false
}

// first is the place of the first record, not left out, of which something is so; -1 if there is none.
func (l lister) first(is func(i int, rr impl.RR) bool) int64 {
	for i, rr := range l.list {
		if !l.out[i] && is(i, rr) {
			return int64(i)
		}
	}
	return -1
}

// twins marks what is left out, and tells where the times of a set are unlike.
func (l lister) twins() int64 {
	for i, rr := range l.list {
		isFirst := true
		for k, ahead := range l.list[:i] {
			if small(ahead.Owner) != small(rr.Owner) || ahead.Type != rr.Type {
				continue
			}
			if isFirst && ahead.TTL != rr.TTL {
				return int64(i)
			}
			isFirst = false
			if impl.FoldData(rr.Type, rr.Data) == impl.FoldData(rr.Type, ahead.Data) && !l.out[k] {
				l.out[i] = true
			}
		}
	}
	return -1
}

// faults says the rules 4 to 8 of chapter 8 once more.
func (l lister) faults(apex string) (int64, int64) {
	isApex := func(owner string) bool { return small(owner) == small(apex) }
	soas := 0
	at := l.first(func(_ int, rr impl.RR) bool {
		if rr.Type == impl.TypeSOA {
			soas++
		}
		return rr.Type == impl.TypeSOA && (soas > 1 || !isApex(rr.Owner))
	})
	if at >= 0 || soas == 0 {
		return impl.ErrSOA, at
	}
	if !l.anyOf(apex, impl.TypeNS, -1) {
		return impl.ErrNS, -1
	}
	if at := l.first(func(_ int, rr impl.RR) bool {
		return (rr.Type == impl.TypeNS || rr.Type == impl.TypeDNAME) && strings.HasPrefix(rr.Owner, "\x01*")
	}); at >= 0 {
		return impl.ErrWild, at
	}
	if at := l.first(func(i int, rr impl.RR) bool {
		return (rr.Type == impl.TypeCNAME || rr.Type == impl.TypeDNAME) && l.anyOf(rr.Owner, rr.Type, i)
	}); at >= 0 {
		return impl.ErrSingle, at
	}
	if at := l.first(func(_ int, rr impl.RR) bool {
		return rr.Type != impl.TypeCNAME && rr.Type != impl.TypeNSEC && l.anyOf(rr.Owner, impl.TypeCNAME, -1)
	}); at >= 0 {
		return impl.ErrSingle, at
	}
	if at := l.first(func(_ int, rr impl.RR) bool {
		return slices.ContainsFunc(above(rr.Owner)[1:], func(s string) bool { return l.anyOf(s, impl.TypeDNAME, -1) })
	}); at >= 0 {
		return impl.ErrBelow, at
	}
	return impl.OK, 0
}

// zone says the last rule of chapter 8 once more: sorts what is left, and gathers neighbours.
func (l lister) zone(apex string) impl.Zone {
	z := impl.Zone{Apex: apex}
	var rest []impl.RR
	for i, rr := range l.list {
		if !l.out[i] {
			first := slices.IndexFunc(l.list, func(o impl.RR) bool { return small(o.Owner) == small(rr.Owner) })
			rr.Owner = l.list[first].Owner
			rest = append(rest, rr)
		}
	}
	sort.Slice(rest, func(i, k int) bool {
		a, b := rest[i], rest[k]
		if c := impl.CompareNames(a.Owner, b.Owner); c != 0 {
			return c < 0
		}
		if a.Type != b.Type {
			return a.Type < b.Type
		}
		return impl.CompareData(a.Type, a.Data, b.Data) < 0
	})
	for i, rr := range rest {
		if i == 0 || rest[i-1].Owner != rr.Owner || rest[i-1].Type != rr.Type {
			z.Sets = append(z.Sets, impl.Set{Owner: rr.Owner, Type: rr.Type, TTL: rr.TTL})
		}
		last := &z.Sets[len(z.Sets)-1]
		last.Data = append(last.Data, rr.Data)
	}
	return z
}

// zoneOf says chapter 8 on BuildZone once more.
func zoneOf(list []impl.RR, apex string) (impl.Zone, int64, int64) {
	if !isName(apex) {
		return impl.Zone{}, impl.ErrForm, -1
	}
	if len(list) > 500 {
		return impl.Zone{}, impl.ErrCount, -1
	}
	for i, rr := range list {
		if code := recordFault(rr, apex); code != impl.OK {
			return impl.Zone{}, code, int64(i)
		}
	}
	l := lister{list, make([]bool, len(list))}
	if at := l.twins(); at >= 0 {
		return impl.Zone{}, impl.ErrMixed, at
	}
	if code, at := l.faults(apex); code != impl.OK {
		return impl.Zone{}, code, at
	}
	return l.zone(apex), impl.OK, 0
}

// namesOf says chapter 8 on ZoneNames once more, of a valid zone.
func namesOf(z impl.Zone) []string {
	var out []string
	known := func(name string) bool {
		return slices.ContainsFunc(out, func(s string) bool { return small(s) == small(name) })
	}
	for _, set := range z.Sets {
		if !known(set.Owner) {
			out = append(out, set.Owner)
		}
	}
	for _, set := range z.Sets {
		for _, name := range above(set.Owner) {
			if under(name, z.Apex) && !known(name) {
				out = append(out, name)
			}
		}
	}
	sort.Slice(out, func(i, k int) bool { return impl.CompareNames(out[i], out[k]) < 0 })
	return out
}

// nodeOf says chapter 8 on FindNode once more, of a valid zone and a name.
func nodeOf(z impl.Zone, name string) impl.Node {
	if !under(name, z.Apex) {
		return impl.Node{}
	}
	var node impl.Node
	for _, s := range above(name) {
		isOver := func(set impl.Set) bool { return under(set.Owner, s) }
		if node.Closest == "" && slices.ContainsFunc(z.Sets, isOver) {
			node.Closest = s
		}
		for _, set := range z.Sets {
			if set.Type == impl.TypeNS && small(set.Owner) == small(s) && small(s) != small(z.Apex) {
				node.Cut = set.Owner
			}
		}
	}
	for _, set := range z.Sets {
		if small(set.Owner) == small(name) {
			node.Types = append(node.Types, set.Type)
		}
	}
	switch {
	case small(node.Cut) == small(name):
		node.Kind = 4
	case node.Cut != "":
		node.Kind = 5
	case len(node.Types) > 0:
		node.Kind = 3
	case node.Closest == name:
		node.Kind = 2
	default:
		node.Kind = 1
	}
	return node
}

func sameNode(a, b impl.Node) bool {
	return a.Kind == b.Kind && a.Closest == b.Closest && a.Cut == b.Cut && slices.Equal(a.Types, b.Types)
}

// ownerIn makes an owner under an apex, of few labels, so that many meet.
func ownerIn(r *rand.Rand, apex string, most int) string {
	labels := []string{"a", "A", "b", "w", "W", "*", "sub", "SUB", "\xe9", "ab"}
	out := apex
	if r.Intn(3) == 0 {
		out = capital(apex)
	}
	for range r.Intn(most + 1) {
		out = st(labels[r.Intn(len(labels))]) + out
	}
	return out
}

// recordIn makes a record for a zone, often of the kinds that the rules speak of.
func recordIn(r *rand.Rand, apex string) impl.RR {
	types := []int64{impl.TypeA, impl.TypeA, impl.TypeTXT, impl.TypeMX, impl.TypeNS, impl.TypeNS, impl.TypeCNAME, impl.TypeDNAME, impl.TypeNSEC, 65280}
	rtype := types[r.Intn(len(types))]
	data := st([]string{"a", "A", "b", ""}[r.Intn(4)])
	switch rtype {
	case impl.TypeA:
		data = be(int64(r.Intn(3)), 4)
	case impl.TypeNS, impl.TypeCNAME, impl.TypeDNAME, impl.TypeNSEC:
		data = ownerIn(r, apex, 1)
	case impl.TypeMX:
		data = be(int64(r.Intn(2)), 2) + ownerIn(r, apex, 1)
	}
	return rrOf(ownerIn(r, apex, 3), rtype, data)
}

// zoneList makes records that are often fit for a zone.
func zoneList(r *rand.Rand, apex string, most int) []impl.RR {
	list := begun(apex)
	for range r.Intn(most + 1) {
		list = append(list, recordIn(r, apex))
	}
	r.Shuffle(len(list), func(i, k int) { list[i], list[k] = list[k], list[i] })
	return list
}

// fitList makes records that are fit for a zone: one that breaks a rule is taken back.
func fitList(r *rand.Rand, apex string, most int) []impl.RR {
	list := begun(apex)
	for range most {
		more := append(slices.Clone(list), recordIn(r, apex))
		if _, code, _ := zoneOf(more, apex); code == impl.OK {
			list = more
		}
	}
	r.Shuffle(len(list), func(i, k int) { list[i], list[k] = list[k], list[i] })
	return list
}

// apexes are apexes for zones of tests.
func apexes() []string {
	return []string{root, nm("example"), nm("Example", "Net"), nm("*", "x"), nm("a", "b", "c")}
}
