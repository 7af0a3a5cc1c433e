package tests

import (
	"fmt"
	"math/rand"
	"slices"
	"testing"

	"loop.example/s01858/impl"
)

func checkUpdate(t *testing.T, tell string, z impl.Zone, m impl.Message, want impl.Zone, rc, code int64) {
	t.Helper()
	got, gotRC, gotCode := impl.Update(z, m)
	if !sameZone(got, want) || gotRC != rc || gotCode != code {
		t.Errorf("%s: Update = %s, %d, %d, want %s, %d, %d", tell, tellZone(got), gotRC, gotCode, tellZone(want), rc, code)
	}
}

func TestUpdate(t *testing.T) {
	z := zoneWith(t, 7, changedZone)
	behind := zoneWith(t, 8, changedZone+"new A 192.0.2.1\n")
	for _, c := range []struct {
		conditions, changes string
		zone                impl.Zone
		rc                  int64
	}{
		{"", "", z, impl.NoError},
		{"?web; !new", "+new A 192.0.2.1", behind, impl.NoError},
		{"=mail MX 10 WEB", "+new A 192.0.2.1", behind, impl.NoError},
		{"", "+new A 192.0.2.1; -new", z, impl.NoError},
		{"?web", "", z, impl.NoError},
		// A condition that is not met, whatever the changes are.
		{"?new", "+new A 192.0.2.1", z, impl.NXDomain},
		{"!web", "+new A 192.0.2.1", z, impl.YXDomain},
		{"?web; !web A", "+new A 192.0.2.1", z, impl.YXRRSet},
		{"?web MX", "+new A 192.0.2.1", z, impl.NXRRSet},
		{"=web A 192.0.2.1", "+new A 192.0.2.1", z, impl.NXRRSet},
		{"?com.", "+new A 192.0.2.1", z, impl.NotZone},
		{"?new", "+com. A 192.0.2.1", z, impl.NXDomain},
		{"?new", "-web AXFR", z, impl.NXDomain},
		// A condition speaks of the zone ahead of the changes.
		{"?new", "+new A 192.0.2.1; +new A 192.0.2.2", z, impl.NXDomain},
		// A change that is ill bars all.
		{"", "+new A 192.0.2.1; +com. A 192.0.2.1", z, impl.NotZone},
		{"?web", "+new A 192.0.2.1; -web AXFR", z, impl.FormErr},
		{"", "-web TYPE0; +com. A 192.0.2.1", z, impl.FormErr},
		{"", "+com. A 192.0.2.1; -web TYPE0", z, impl.NotZone},
		// One that does not count bars none.
		{"", "+alias A 192.0.2.1; +new A 192.0.2.1", behind, impl.NoError},
	} {
		m := updateMessage(inEx(), asks(t, c.conditions), asks(t, c.changes))
		checkUpdate(t, fmt.Sprintf("%q, %q", c.conditions, c.changes), z, m, c.zone, c.rc, impl.OK)
	}
}

func TestUpdateQuestion(t *testing.T) {
	z := zoneWith(t, 7, changedZone)
	behind := zoneWith(t, 8, changedZone+"new A 192.0.2.1\n")
	q := func(name string, rtype, class int64) impl.Question {
		return impl.Question{Name: name, Type: rtype, Class: class}
	}
	for i, c := range []struct {
		questions []impl.Question
		rc        int64
	}{
		{nil, impl.FormErr},
		{[]impl.Question{q(inEx(), 6, 1), q(inEx(), 6, 1)}, impl.FormErr},
		{[]impl.Question{q(inEx(), 6, 1), q(inEx("web"), 6, 1)}, impl.FormErr},
		{[]impl.Question{q(inEx(), 1, 1)}, impl.FormErr},
		{[]impl.Question{q(inEx(), 255, 1)}, impl.FormErr},
		{[]impl.Question{q(inEx(), 0, 255)}, impl.FormErr},
		{[]impl.Question{q(nm("com"), 1, 1)}, impl.FormErr},
		{[]impl.Question{q(inEx("web"), 2, 3)}, impl.FormErr},
		{[]impl.Question{q(inEx(), 6, 3)}, impl.NotAuth},
		{[]impl.Question{q(inEx(), 6, 0)}, impl.NotAuth},
		{[]impl.Question{q(inEx(), 6, 254)}, impl.NotAuth},
		{[]impl.Question{q(inEx(), 6, 255)}, impl.NotAuth},
		{[]impl.Question{q(inEx("web"), 6, 1)}, impl.NotAuth},
		{[]impl.Question{q(nm("com"), 6, 1)}, impl.NotAuth},
		{[]impl.Question{q(root, 6, 1)}, impl.NotAuth},
		{[]impl.Question{q(nm("xexample"), 6, 1)}, impl.NotAuth},
	} {
		for _, lists := range [][2]string{{"", "+new A 192.0.2.1"}, {"?com.", "+com. A 192.0.2.1"}, {"?no", "-web AXFR"}} {
			m := updateMessage(inEx(), asks(t, lists[0]), asks(t, lists[1]))
			m.Questions = c.questions
			checkUpdate(t, "question "+itoa(i), z, m, z, c.rc, impl.OK)
		}
	}
	for _, name := range []string{nm("example"), nm("EXAMPLE"), nm("exAmple")} {
		checkUpdate(t, "the apex in letters", z, updateMessage(name, nil, asks(t, "+new A 192.0.2.1")), behind, impl.NoError, impl.OK)
	}
}

// What is not looked at: the head, and the extra list.
func TestUpdateElse(t *testing.T) {
	z := zoneWith(t, 7, changedZone)
	behind := zoneWith(t, 8, changedZone+"new A 192.0.2.1\n")
	heads := []impl.Head{{}, {Op: impl.OpQuery, QR: true}, {ID: 65535, Op: 15, AA: true, TC: true, RD: true, RA: true, Z: true, AD: true, CD: true, Code: 15}}
	extras := [][]impl.RR{nil, {{Owner: root, Type: 41, Class: 4096, TTL: 4294967295}}, {soaOf(inEx(), 9), rrOf(nm("com"), 1, "abcd")}}
	for _, head := range heads {
		for _, extra := range extras {
			m := updateMessage(inEx(), asks(t, "?web"), asks(t, "+new A 192.0.2.1"))
			m.Head, m.Extra = head, extra
			checkUpdate(t, "another head or extra list", z, m, behind, impl.NoError, impl.OK)
		}
	}
}

func TestUpdateNotValid(t *testing.T) {
	z := zoneWith(t, 7, changedZone)
	fine := updateMessage(inEx(), asks(t, "?web"), asks(t, "+new A 192.0.2.1"))
	refuse := func(tell string, z impl.Zone, m impl.Message) {
		t.Helper()
		checkUpdate(t, tell, z, m, impl.Zone{}, 0, impl.ErrForm)
	}
	for tell, ill := range map[string]impl.Zone{"no zone": {}, "no sets": {Apex: inEx()}, "no SOA": {Apex: z.Apex, Sets: z.Sets[1:]}} {
		refuse(tell, ill, fine)
		refuse(tell+", no message", ill, impl.Message{})
	}
	for tell, list := range unsound() {
		for at := range 3 {
			m := fine
			*recordLists(&m)[at] = list
			refuse(tell, z, m)
			m.Questions = nil
			refuse(tell+" and no question", z, m)
		}
	}
	for _, head := range []impl.Head{{ID: -1}, {ID: 65536}, {Op: 16}, {Op: -1}, {Code: 16}, {Code: -1}} {
		m := fine
		m.Head = head
		refuse("a head", z, m)
	}
	for _, q := range []impl.Question{{Name: "", Type: 6, Class: 1}, {Name: inEx(), Type: 65536, Class: 1}, {Name: inEx(), Type: 6, Class: -1}} {
		m := fine
		m.Questions = []impl.Question{q}
		refuse("a question", z, m)
	}
	// MaxEntries in all, and one more.
	m := updateMessage(inEx(), slices.Repeat(asks(t, "?web"), 199), slices.Repeat(asks(t, "-new"), 200))
	checkUpdate(t, "MaxEntries", z, m, z, impl.NoError, impl.OK)
	m.Extra = asks(t, "?web")
	refuse("one more than MaxEntries", z, m)
}

// spoilMessage spoils a message that asks for changes.
func spoilMessage(r *rand.Rand, m *impl.Message) {
	switch list := *recordLists(m)[r.Intn(2)]; r.Intn(8) {
	case 0:
		m.Questions = nil
	case 1:
		m.Questions = append(m.Questions, m.Questions[0])
	case 2:
		m.Questions[0].Type = []int64{1, 6, 255, 65536}[r.Intn(4)]
	case 3:
		m.Questions[0].Class = []int64{0, 1, 3, 254, 255}[r.Intn(5)]
	case 4:
		m.Questions[0].Name = anyName(r)
	default:
		if len(list) > 0 {
			spoilAsk(r, &list[r.Intn(len(list))])
		}
	}
}

func TestUpdateAnyMessage(t *testing.T) {
	r := rand.New(rand.NewSource(115))
	met := map[int64]int{}
	for n := range 3000 {
		z := changeZone(t, r, apexes()[n%3], 8)
		m := updateMessage(ownerIn(r, z.Apex, 0), conditionsIn(r, z, 2), changesIn(r, z, 5))
		if n%4 == 0 {
			spoilMessage(r, &m)
		}
		if n%50 == 0 {
			bendZone(r, &z)
		}
		want, rc, code := updateOf(z, m)
		checkUpdate(t, tellZone(z), z, m, want, rc, code)
		met[rc]++
	}
	for _, rc := range []int64{impl.NoError, impl.FormErr, impl.NXDomain, impl.YXDomain, impl.YXRRSet, impl.NXRRSet, impl.NotAuth, impl.NotZone} {
		if met[rc] < 10 {
			t.Errorf("only %d messages answered %d", met[rc], rc)
		}
	}
}
