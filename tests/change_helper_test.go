package tests

import (
	"fmt"
	"math/rand"
	"slices"
	"strings"
	"testing"

	"loop.example/s01858/impl"
)

// asks reads conditions and changes, parted by `;`, relative to `example.`. A sign stands ahead of each: `+` adds a
// record, `-` drops an owner, a set or a datum, `?` wants an owner or a set, `!` wants none, `=` wants a datum.
func asks(t *testing.T, text string) []impl.RR {
	t.Helper()
	var out []impl.RR
	for _, part := range strings.Split(text, ";") {
		part = strings.TrimSpace(part)
		if part == "" {
			continue
		}
		sign, words := part[0], strings.Fields(part[1:])
		class := map[byte]int64{'+': impl.ClassIN, '=': impl.ClassIN, '-': impl.ClassNONE, '?': impl.ClassANY, '!': impl.ClassNONE}[sign]
		if len(words) > 2 {
			rr := inClass(records(t, part[1:])[0], class)
			if sign != '+' {
				rr.TTL = 0
			}
			out = append(out, rr)
			continue
		}
		if sign == '-' {
			class = impl.ClassANY
		}
		rr := impl.RR{Owner: named(t, words[0]), Type: impl.TypeANY, Class: class}
		if len(words) == 2 {
			rr.Type = typed(t, words[1])
		}
		out = append(out, rr)
	}
	return out
}

// zoneWith is the zone of an SOA with this serial and the records of a text, whose apex is `example.`.
func zoneWith(t *testing.T, serial int64, text string) impl.Zone {
	t.Helper()
	return zoneText(t, fmt.Sprintf("$TTL 3600\n@ SOA ns admin %d 7200 900 86400 300\n%s", serial, text))
}

// serialOf is a zone's serial.
func serialOf(z impl.Zone) int64 {
	data := recordsAt(z, z.Apex, impl.TypeSOA)[0].Data
	return beAt(data, len(data)-20, 4)
}

// isAfter says chapter 12 on SerialLess once more, of serials.
func isAfter(a, b int64) bool { return int32(uint32(b)-uint32(a)) > 0 }

// isSoundList says chapter 12 on sound lists once more.
func isSoundList(list []impl.RR) bool { return isValid(impl.Message{Answer: list}) }

// isMetaType says chapter 3 on meta types once more.
func isMetaType(rtype int64) bool { return slices.Contains(metaTypes(), rtype) }

// conditionOf says chapter 12 on one condition once more.
func conditionOf(z impl.Zone, rr impl.RR) int64 {
	sets := setsAt(z, rr.Owner, rr.Type)
	if rr.Type == 255 {
		sets = setsAt(z, rr.Owner)
	}
	switch {
	case rr.TTL != 0:
		return 1
	case !under(rr.Owner, z.Apex):
		return 10
	case rr.Class == 1:
		if isMetaType(rr.Type) || !isData(rr.Type, rr.Data) {
			return 1
		}
	case rr.Class != 255 && rr.Class != 254 || rr.Data != "":
		return 1
	case rr.Class == 255 && len(sets) == 0:
		return map[bool]int64{true: 3, false: 8}[rr.Type == 255]
	case rr.Class == 254 && len(sets) > 0:
		return map[bool]int64{true: 6, false: 7}[rr.Type == 255]
	}
	return 0
}

// conditionsOf says chapter 12 on CheckConditions once more.
func conditionsOf(z impl.Zone, list []impl.RR) (int64, int64) {
	if impl.CheckZone(z) != impl.OK || !isSoundList(list) {
		return 0, impl.ErrForm
	}
	for _, rr := range list {
		if code := conditionOf(z, rr); code != 0 {
			return code, impl.OK
		}
	}
	isOf := func(a, b impl.RR) bool {
		return a.Class == 1 && b.Class == 1 && a.Type == b.Type && small(a.Owner) == small(b.Owner)
	}
	isOne := func(a, b impl.RR) bool {
		return isOf(a, b) && impl.FoldData(a.Type, a.Data) == impl.FoldData(b.Type, b.Data)
	}
	for _, rr := range list {
		if rr.Class != 1 {
			continue
		}
		there := recordsAt(z, rr.Owner, rr.Type)
		if !slices.ContainsFunc(there, func(o impl.RR) bool { return isOne(o, rr) }) {
			return 8, impl.OK
		}
		for _, o := range there {
			if !slices.ContainsFunc(list, func(a impl.RR) bool { return isOne(a, o) }) {
				return 8, impl.OK
			}
		}
	}
	return 0, impl.OK
}

// changesOf says chapter 12 on CheckChanges once more.
func changesOf(apex string, list []impl.RR) (int64, int64) {
	if !isName(apex) || !isSoundList(list) {
		return 0, impl.ErrForm
	}
	for _, rr := range list {
		fits := !isMetaType(rr.Type) && isData(rr.Type, rr.Data)
		isAsked := map[int64]bool{
			1:   fits && rr.TTL <= 2147483647,
			254: fits && rr.TTL == 0,
			255: (rr.Type == 255 || !isMetaType(rr.Type)) && rr.TTL == 0 && rr.Data == "",
		}
		if !under(rr.Owner, apex) {
			return 10, impl.OK
		}
		if !isAsked[rr.Class] {
			return 1, impl.OK
		}
	}
	return 0, impl.OK
}

// dropThat is a list without the records of which something is so.
func dropThat(list []impl.RR, is func(impl.RR) bool) []impl.RR {
	return slices.DeleteFunc(slices.Clone(list), is)
}

// addedTo says chapter 12 on one addition once more: the records behind it, as they came if it does not count.
func addedTo(list []impl.RR, apex string, rr impl.RR) []impl.RR {
	isSet := func(o impl.RR) bool { return small(o.Owner) == small(rr.Owner) && o.Type == rr.Type }
	if rr.Type == impl.TypeSOA {
		at := slices.IndexFunc(list, isSet)
		if at < 0 {
			return list
		}
		from, to := list[at].Data, rr.Data
		if !isAfter(beAt(from, len(from)-20, 4), beAt(to, len(to)-20, 4)) {
			return list
		}
	}
	for _, o := range list {
		if small(o.Owner) == small(rr.Owner) {
			rr.Owner = o.Owner
		}
	}
	out := dropThat(list, func(o impl.RR) bool {
		isOnly := o.Type == impl.TypeSOA || o.Type == impl.TypeCNAME || o.Type == impl.TypeDNAME
		return isSet(o) && (isOnly || impl.FoldData(o.Type, o.Data) == impl.FoldData(rr.Type, rr.Data))
	})
	for i := range out {
		if isSet(out[i]) {
			out[i].TTL = rr.TTL
		}
	}
	out = append(out, rr)
	if _, code, _ := zoneOf(out, apex); code != impl.OK {
		return list
	}
	return out
}

// droppedFrom says chapter 12 on one deletion once more.
func droppedFrom(list []impl.RR, apex string, rr impl.RR) []impl.RR {
	isApex := small(rr.Owner) == small(apex)
	isFirm := func(o impl.RR) bool { return isApex && (o.Type == impl.TypeSOA || o.Type == impl.TypeNS) }
	out := dropThat(list, func(o impl.RR) bool {
		isSet := small(o.Owner) == small(rr.Owner) && (o.Type == rr.Type || rr.Type == 255)
		if rr.Class == 255 {
			return isSet && !isFirm(o)
		}
		return isSet && o.Type != impl.TypeSOA && impl.FoldData(o.Type, o.Data) == impl.FoldData(rr.Type, rr.Data)
	})
	if !slices.ContainsFunc(out, func(o impl.RR) bool { return o.Type == impl.TypeNS && small(o.Owner) == small(apex) }) {
		return list
	}
	return out
}

// appliedTo says chapter 12 on ApplyChanges once more.
func appliedTo(z impl.Zone, list []impl.RR) (impl.Zone, int64) {
	rc, code := changesOf(z.Apex, list)
	if impl.CheckZone(z) != impl.OK || rc != 0 || code != 0 {
		return impl.Zone{}, impl.ErrForm
	}
	now := impl.ZoneRecords(z)
	for _, rr := range list {
		if rr.Class == 1 {
			now = addedTo(now, z.Apex, rr)
		} else {
			now = droppedFrom(now, z.Apex, rr)
		}
	}
	out, _, _ := zoneOf(now, z.Apex)
	old := serialOf(z)
	if sameZone(out, z) || isAfter(old, serialOf(out)) {
		return out, impl.OK
	}
	at := slices.IndexFunc(out.Sets, func(s impl.Set) bool { return s.Type == impl.TypeSOA })
	data := out.Sets[at].Data[0]
	next := max(1, (old+1)%4294967296)
	out.Sets[at].Data[0] = data[:len(data)-20] + be(next, 4) + data[len(data)-16:]
	return out, impl.OK
}

// updateOf says chapter 12 on Update once more.
func updateOf(z impl.Zone, m impl.Message) (impl.Zone, int64, int64) {
	if impl.CheckZone(z) != impl.OK || !isValid(m) {
		return impl.Zone{}, 0, impl.ErrForm
	}
	if len(m.Questions) != 1 || m.Questions[0].Type != 6 {
		return z, 1, impl.OK
	}
	if q := m.Questions[0]; q.Class != 1 || small(q.Name) != small(z.Apex) {
		return z, 9, impl.OK
	}
	if rc, _ := conditionsOf(z, m.Answer); rc != 0 {
		return z, rc, impl.OK
	}
	if rc, _ := changesOf(z.Apex, m.Authority); rc != 0 {
		return z, rc, impl.OK
	}
	out, _ := appliedTo(z, m.Authority)
	return out, 0, impl.OK
}

// changeZone makes a zone that is changed, with a serial that is often near the round.
func changeZone(t *testing.T, r *rand.Rand, apex string, most int) impl.Zone {
	t.Helper()
	serials := []int64{0, 1, 7, 2147483647, 2147483648, 4294967294, 4294967295}
	list := fitList(r, apex, most)
	for i, rr := range list {
		if rr.Type == impl.TypeSOA {
			list[i] = soaOf(apex, serials[r.Intn(len(serials))])
		}
	}
	return mustBuild(t, list, apex)
}

// knownIn makes a record that is in a zone, or one like it, in some letters.
func knownIn(r *rand.Rand, z impl.Zone) impl.RR {
	list := impl.ZoneRecords(z)
	rr := list[r.Intn(len(list))]
	if r.Intn(3) == 0 {
		rr.Owner = list[r.Intn(len(list))].Owner
	}
	if r.Intn(2) == 0 {
		rr = inLetters(r, rr)
	}
	return rr
}

// changeIn makes a change of a zone.
func changeIn(r *rand.Rand, z impl.Zone) impl.RR {
	rr := recordIn(r, z.Apex)
	if r.Intn(2) == 0 {
		rr = knownIn(r, z)
	}
	switch r.Intn(9) {
	case 0:
		return impl.RR{Owner: rr.Owner, Type: impl.TypeANY, Class: impl.ClassANY}
	case 1, 2:
		return impl.RR{Owner: rr.Owner, Type: rr.Type, Class: impl.ClassANY}
	case 3, 4:
		rr = inClass(inTime(rr, 0), impl.ClassNONE)
	case 5:
		rr.TTL = []int64{0, 1, 60, 2147483647}[r.Intn(4)]
	case 6:
		if r.Intn(2) == 0 {
			ahead := []int64{1, 1, 5, 2147483647, 2147483648, 4294967295}[r.Intn(6)]
			return inLetters(r, soaOf(rr.Owner, (serialOf(z)+ahead)%4294967296))
		}
	}
	return rr
}

// conditionIn makes a condition, which a zone often meets.
func conditionIn(r *rand.Rand, z impl.Zone) impl.RR {
	rr := recordIn(r, z.Apex)
	if r.Intn(4) > 0 {
		rr = knownIn(r, z)
	}
	rr.TTL = 0
	switch r.Intn(6) {
	case 0:
		return impl.RR{Owner: rr.Owner, Type: impl.TypeANY, Class: impl.ClassANY}
	case 1:
		return impl.RR{Owner: rr.Owner, Type: rr.Type, Class: impl.ClassANY}
	case 2:
		return impl.RR{Owner: ownerIn(r, z.Apex, 3), Type: impl.TypeANY, Class: impl.ClassNONE}
	case 3:
		return impl.RR{Owner: rr.Owner, Type: recordIn(r, z.Apex).Type, Class: impl.ClassNONE}
	}
	return rr
}

// setIn makes the conditions that a zone has just the data of one of its sets.
func setIn(r *rand.Rand, z impl.Zone) []impl.RR {
	set := z.Sets[r.Intn(len(z.Sets))]
	set.TTL = 0
	list := impl.ZoneRecords(impl.Zone{Sets: []impl.Set{set}})
	for i := range list {
		list[i] = inLetters(r, list[i])
	}
	return shuffled(r, append(list, list[r.Intn(len(list))]))
}

// conditionsIn makes conditions, which a zone often meets.
func conditionsIn(r *rand.Rand, z impl.Zone, most int) []impl.RR {
	var list []impl.RR
	for range r.Intn(most + 1) {
		list = append(list, setIn(r, z)...)
		if r.Intn(3) == 0 {
			list = append(list, conditionIn(r, z))
		}
	}
	return list
}

// changesIn makes changes of a zone, of which a later one often undoes an earlier one.
func changesIn(r *rand.Rand, z impl.Zone, most int) []impl.RR {
	var list []impl.RR
	for range r.Intn(most + 1) {
		rr := changeIn(r, z)
		if len(list) > 0 && r.Intn(3) == 0 {
			rr = list[r.Intn(len(list))]
			if r.Intn(2) == 0 && !isMetaType(rr.Type) && rr.Data != "" {
				rr = inClass(inTime(rr, 0), []int64{1, 254}[r.Intn(2)])
			}
		}
		list = append(list, rr)
	}
	return list
}

// spoilAsk spoils a condition or a change.
func spoilAsk(r *rand.Rand, rr *impl.RR) {
	switch r.Intn(7) {
	case 0:
		rr.Owner = anyName(r)
	case 1:
		rr.Type = []int64{-1, 0, 1, 2, 41, 249, 252, 255, 65535, 65536}[r.Intn(10)]
	case 2:
		rr.Class = []int64{-1, 0, 1, 2, 3, 253, 254, 255, 256, 65535, 65536}[r.Intn(11)]
	case 3:
		rr.TTL = []int64{-1, 0, 1, 2147483647, 2147483648, 4294967295, 4294967296}[r.Intn(7)]
	case 4:
		rr.Data = ""
	case 5:
		rr.Data += "x"
	case 6:
		rr.Owner += "x"
	}
}

// updateMessage is a message that asks for changes of a zone.
func updateMessage(apex string, conditions, changes []impl.RR) impl.Message {
	return impl.Message{
		Head:      impl.Head{Op: impl.OpUpdate},
		Questions: []impl.Question{{Name: apex, Type: impl.TypeSOA, Class: impl.ClassIN}},
		Answer:    conditions, Authority: changes,
	}
}
