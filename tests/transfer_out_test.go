package tests

import (
	"fmt"
	"math/rand"
	"slices"
	"testing"

	"loop.example/s01858/impl"
)

func checkOut(t *testing.T, tell string, z impl.Zone, history []impl.Change, qtype, serial int64, want []impl.RR, code int64) {
	t.Helper()
	if got, gotCode := impl.TransferOut(z, history, qtype, serial); gotCode != code || !slices.Equal(got, want) {
		t.Errorf("%s: TransferOut(.., %d, %d) = %s, %d, want %s, %d", tell, qtype, serial, tellRecords(got), gotCode, tellRecords(want), code)
	}
}

// checkNoOut holds TransferOut to a code, with nothing beside.
func checkNoOut(t *testing.T, tell string, z impl.Zone, history []impl.Change, qtype, serial, code int64) {
	t.Helper()
	checkOut(t, tell, z, history, qtype, serial, nil, code)
}

// soaText is the line of the SOA that zones have by zoneWith.
func soaText(serial int64) string {
	return fmt.Sprintf("@ SOA ns admin %d 7200 900 86400 300\n", serial)
}

// fourZones is zones with the serials 7, 8, 10 and 11, and the changes between them: one adds, one drops and adds, one
// does nothing else than raise the serial.
func fourZones(t *testing.T) ([]impl.Zone, []impl.Change) {
	t.Helper()
	zones := []impl.Zone{
		zoneWith(t, 7, "@ NS ns\na A 192.0.2.1"),
		zoneWith(t, 8, "@ NS ns\na A 192.0.2.1\nb TXT x"),
		zoneWith(t, 10, "@ NS ns\na A 192.0.2.2\na A 192.0.2.3\nb TXT x"),
		zoneWith(t, 11, "@ NS ns\na A 192.0.2.2\na A 192.0.2.3\nb TXT x"),
	}
	del, add := []string{"", "a A 192.0.2.1", ""}, []string{"b TXT x", "a A 192.0.2.2\na A 192.0.2.3", ""}
	var history []impl.Change
	for i := range 3 {
		history = append(history, impl.Change{Old: soaIn(zones[i]), New: soaIn(zones[i+1]), Del: records(t, del[i]), Add: records(t, add[i])})
	}
	return zones, history
}

func TestOut(t *testing.T) {
	zones, history := fourZones(t)
	z := zones[3]
	const all = "@ NS ns\na A 192.0.2.2\na A 192.0.2.3\nb TXT x\n"
	last := soaText(10) + soaText(11)
	second := soaText(8) + "a A 192.0.2.1\n" + soaText(10) + "a A 192.0.2.2\na A 192.0.2.3\n" + last
	first := soaText(7) + soaText(8) + "b TXT x\n" + second
	for _, c := range []struct {
		history       []impl.Change
		qtype, serial int64
		want          string
	}{
		{history, impl.TypeAXFR, 0, all},
		{history, impl.TypeAXFR, 7, all},
		{history, impl.TypeAXFR, 11, all},
		{history, impl.TypeAXFR, 4294967295, all},
		{nil, impl.TypeAXFR, 7, all},
		{history, impl.TypeIXFR, 7, first},
		{history, impl.TypeIXFR, 8, second},
		{history, impl.TypeIXFR, 10, last},
		{history[1:], impl.TypeIXFR, 8, second},
		{history[2:], impl.TypeIXFR, 10, last},
		// No change begins there.
		{history, impl.TypeIXFR, 6, all},
		{history, impl.TypeIXFR, 9, all},
		{history, impl.TypeIXFR, 0, all},
		{history, impl.TypeIXFR, 4294967295, all},
		{history, impl.TypeIXFR, 2147483660, all},
		{history[1:], impl.TypeIXFR, 7, all},
		{history[2:], impl.TypeIXFR, 8, all},
		{nil, impl.TypeIXFR, 7, all},
		{nil, impl.TypeIXFR, 10, all},
	} {
		tell := fmt.Sprintf("%d changes", len(c.history))
		checkOut(t, tell, z, c.history, c.qtype, c.serial, records(t, soaText(11)+c.want+soaText(11)), impl.OK)
	}
	// The serial of the zone, and those that come behind it or neither ahead nor behind.
	for _, serial := range []int64{11, 12, 1000, 2147483658, 2147483659} {
		checkOut(t, "a later serial", z, history, impl.TypeIXFR, serial, records(t, soaText(11)), impl.OK)
		checkOut(t, "a later serial, no history", z, nil, impl.TypeIXFR, serial, records(t, soaText(11)), impl.OK)
	}
}

// The order of a change's lists is kept, and its records are not looked at.
func TestOutAsItIs(t *testing.T) {
	z := zoneWith(t, 11, "@ NS ns\n")
	soa, old := soaIn(z), soaIn(zoneWith(t, 7, "@ NS ns\n"))
	odd := []impl.RR{rrOf("", -1, "x"), old, {}, rrOf(inEx("b"), 1, "abcd"), rrOf(inEx("a"), 1, "abcd"), rrOf(inEx("a"), 1, "abcd")}
	c := impl.Change{Old: old, New: soa, Del: odd, Add: odd[2:]}
	want := slices.Concat([]impl.RR{soa, old}, odd, []impl.RR{soa}, odd[2:], []impl.RR{soa})
	checkOut(t, "odd records", z, []impl.Change{c}, impl.TypeIXFR, 7, want, impl.OK)
	// An Old of another owner, class or time is one of TypeSOA still.
	c.Old = inClass(inTime(soaOf(nm("com"), 7), -1), 255)
	want[1] = c.Old
	checkOut(t, "an odd Old", z, []impl.Change{c}, impl.TypeIXFR, 7, want, impl.OK)
	// One that is of another type, or has no serial, is none to begin at.
	whole := []impl.RR{soa, rrOf(inEx(), impl.TypeNS, inEx("ns")), soa}
	for _, first := range []impl.RR{{}, rrOf(inEx(), 65280, old.Data), rrOf(inEx(), impl.TypeSOA, ""), rrOf(inEx(), impl.TypeSOA, old.Data+"\x00")} {
		c.Old = first
		checkOut(t, "an Old without a serial", z, []impl.Change{c}, impl.TypeIXFR, 7, whole, impl.OK)
		checkOut(t, "an Old without a serial, from 0", z, []impl.Change{c}, impl.TypeIXFR, 0, whole, impl.OK)
	}
}

// Of several changes that begin at a serial the last one counts, also if that serial comes behind the others.
func TestOutLastSuchOne(t *testing.T) {
	z := zoneWith(t, 11, "@ NS ns\n")
	soas := []impl.RR{soaOf(inEx(), 7), soaOf(inEx(), 8), soaOf(inEx(), 7), soaOf(inEx(), 2000000000), soaIn(z)}
	var history []impl.Change
	for i := range 4 {
		history = append(history, impl.Change{Old: soas[i], New: soas[i+1], Add: []impl.RR{rrOf(inEx(itoa(i)), 1, "abcd")}})
	}
	tail := []impl.RR{soas[2], soas[3], history[2].Add[0], soas[3], soas[4], history[3].Add[0], soas[4]}
	checkOut(t, "from 7", z, history, impl.TypeIXFR, 7, append([]impl.RR{soas[4]}, tail...), impl.OK)
	head := []impl.RR{soas[4], soas[1], soas[2], history[1].Add[0]}
	checkOut(t, "from 8", z, history, impl.TypeIXFR, 8, append(head, tail...), impl.OK)
	checkOut(t, "from one behind the zone's", z, history, impl.TypeIXFR, 2000000000, soas[4:], impl.OK)
}

func TestOutSerials(t *testing.T) {
	zones, history := fourZones(t)
	for _, qtype := range []int64{impl.TypeAXFR, impl.TypeIXFR} {
		for _, serial := range []int64{-1, 4294967296, -4294967289, 4294967303, -9223372036854775808, 9223372036854775807} {
			checkNoOut(t, "no serial", zones[3], history, qtype, serial, impl.ErrForm)
		}
	}
	// Round the end of numbers.
	z := zoneWith(t, 3, "@ NS ns\n")
	old := soaIn(zoneWith(t, 4294967295, "@ NS ns\n"))
	round := []impl.Change{{Old: old, New: soaIn(z)}}
	checkOut(t, "round", z, round, impl.TypeIXFR, 4294967295, []impl.RR{soaIn(z), old, soaIn(z), soaIn(z)}, impl.OK)
	checkOut(t, "round, unknown", z, round, impl.TypeIXFR, 0, append(append([]impl.RR{soaIn(z)}, othersIn(z)...), soaIn(z)), impl.OK)
}

func TestOutNoHistory(t *testing.T) {
	zones, history := fourZones(t)
	z := zones[3]
	bend := func(do func(list []impl.Change)) []impl.Change {
		var list []impl.Change
		for _, c := range history {
			list = append(list, cloneChange(c))
		}
		do(list)
		return list
	}
	for tell, ill := range map[string][]impl.Change{
		"the last New":           history[:2],
		"the first only":         history[:1],
		"a gap":                  {history[0], history[2]},
		"the wrong order":        {history[2], history[1], history[0]},
		"one twice":              {history[0], history[1], history[1], history[2]},
		"no change's change":     {{}},
		"an empty one behind":    append(slices.Clone(history), impl.Change{}),
		"the last New's time":    bend(func(list []impl.Change) { list[2].New.TTL++ }),
		"the last New's class":   bend(func(list []impl.Change) { list[2].New.Class = 3 }),
		"the last New's type":    bend(func(list []impl.Change) { list[2].New.Type = 65280 }),
		"the last New's letters": bend(func(list []impl.Change) { list[2].New.Owner = nm("EXAMPLE") }),
		"the last New's data":    bend(func(list []impl.Change) { list[2].New.Data = "\x02NS" + list[2].New.Data[3:] }),
		"a New's letters":        bend(func(list []impl.Change) { list[0].New.Owner = nm("EXAMPLE") }),
		"an Old's time":          bend(func(list []impl.Change) { list[1].Old.TTL = 0 }),
		"501 dropped":            bend(func(list []impl.Change) { list[0].Del = make([]impl.RR, 501) }),
		"501 added":              bend(func(list []impl.Change) { list[2].Add = make([]impl.RR, 501) }),
	} {
		for _, qtype := range []int64{impl.TypeAXFR, impl.TypeIXFR, impl.TypeA} {
			checkNoOut(t, tell, z, ill, qtype, 10, impl.ErrForm)
			checkNoOut(t, tell+", with a later serial", z, ill, qtype, 11, impl.ErrForm)
		}
	}
	checkNoOut(t, "another's history", zones[2], history, impl.TypeIXFR, 7, impl.ErrForm)
	// The first Old hangs on nothing, and the lists may be full.
	full := bend(func(list []impl.Change) {
		list[0].Old, list[1].Del, list[1].Add = impl.RR{}, make([]impl.RR, 500), make([]impl.RR, 500)
	})
	if list, code := impl.TransferOut(z, full, impl.TypeIXFR, 8); code != impl.OK || len(list) != 1+1002+2+1 {
		t.Errorf("TransferOut with full lists = %d records, %d", len(list), code)
	}
}

func TestOutMostHistory(t *testing.T) {
	var history []impl.Change
	want := []impl.RR{soaOf(inEx(), 100)}
	for n := int64(59); n < 100; n++ {
		c := impl.Change{Old: soaOf(inEx(), n), New: soaOf(inEx(), n+1)}
		history = append(history, c)
		if n > 59 {
			want = append(want, c.Old, c.New)
		}
	}
	want = append(want, soaOf(inEx(), 100))
	z := mustBuild(t, []impl.RR{want[0], rrOf(inEx(), impl.TypeNS, nm("ns"))}, inEx())
	checkOut(t, "MaxHistory changes", z, history[1:], impl.TypeIXFR, 60, want, impl.OK)
	checkNoOut(t, "one more", z, history, impl.TypeIXFR, 60, impl.ErrForm)
	checkNoOut(t, "one more, whole", z, history, impl.TypeAXFR, 60, impl.ErrForm)
}

func TestOutNotValid(t *testing.T) {
	zones, history := fourZones(t)
	z := zones[3]
	for tell, ill := range noZones(z) {
		checkNoOut(t, tell, ill, history, impl.TypeIXFR, 7, impl.ErrForm)
		checkNoOut(t, tell+" and no history", ill, nil, impl.TypeAXFR, 0, impl.ErrForm)
		checkNoOut(t, tell+" and no type", ill, nil, 0, 0, impl.ErrForm)
	}
	for _, qtype := range append(noTypes(), 0, 1, 6, 249, 250, 253, 254, 255, 256) {
		checkNoOut(t, "another type", z, history, qtype, 7, impl.ErrType)
		checkNoOut(t, "another type, no history", z, nil, qtype, 4294967295, impl.ErrType)
		checkNoOut(t, "another type, no serial", z, history, qtype, -1, impl.ErrForm)
		checkNoOut(t, "another type, ill history", z, history[:1], qtype, 7, impl.ErrForm)
	}
}

func TestOutAnyHistory(t *testing.T) {
	r := rand.New(rand.NewSource(133))
	met, sizes := map[int64]int{}, map[string]int{}
	for n := range 600 {
		zones, history := historyOf(t, r, apexes()[n%3], n%6, 5)
		z := cloneZone(zones[len(zones)-1])
		from := max(0, r.Intn(len(history)+1)-1)
		history = history[from:]
		switch n % 12 {
		case 0:
			bendZone(r, &z)
		case 1:
			if len(history) > 0 {
				spoilChange(r, zones[from], &history[r.Intn(len(history))])
			}
		}
		for _, zone := range zones {
			for _, ahead := range []int64{-1, 0, 1} {
				for _, qtype := range []int64{251, 252, 253} {
					serial := serialOf(zone) + ahead
					want, code := outOf(z, history, qtype, serial)
					checkOut(t, tellZone(z), z, history, qtype, serial, want, code)
					met[code]++
					if code == impl.OK && len(want) == 1 {
						sizes["alone"]++
					} else if code == impl.OK && want[1].Type == impl.TypeSOA {
						sizes["by changes"]++
					}
				}
			}
		}
	}
	if met[impl.OK] < 2000 || met[impl.ErrForm] < 500 || met[impl.ErrType] < 1000 || sizes["alone"] < 500 || sizes["by changes"] < 500 {
		t.Errorf("the codes met are %v, the kinds %v", met, sizes)
	}
}
