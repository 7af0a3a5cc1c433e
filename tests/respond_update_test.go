package tests

import (
	"fmt"
	"slices"
	"testing"

	"loop.example/s01858/impl"
)

// serverBehind is a server behind a change: its zone, and one change more.
func serverBehind(s impl.Server, z impl.Zone, c impl.Change) impl.Server {
	s.Zone, s.History = z, append(slices.Clone(s.History), c)
	return s
}

// checkServerChange holds what becomes of a server by a message in all its forms, the server with keys and without.
func checkServerChange(t *testing.T, tell string, s impl.Server, m impl.Message, code int64, next impl.Server) {
	t.Helper()
	key := keyOf("Key", "secret")
	keyed, keyedNext := s, next
	keyed.Keys, keyedNext.Keys = []impl.Key{key}, []impl.Key{key}
	for _, tcp := range []bool{false, true} {
		for _, opt := range [][2][]impl.RR{{nil, nil}, {{optOf(512, 0)}, {optOf(4096, 0)}}, {{optOf(1232, 65535-16384)}, {optOf(4096, 32768)}}} {
			ask, reply := withExtra(m, opt[0]...), withExtra(replyTo(m, code), opt[1]...)
			checkRespond(t, tell, s, asked(ask), tcp, 1000, oneReply(6, reply), next, impl.OK)
			sum := tsigOf(asked(ask), key, 1000, 300, "").sum
			want := impl.Reply{Case: 6, Messages: [][]byte{[]byte(signedBy(asked(reply), key, 1000, sum))}}
			checkRespond(t, tell+", signed", keyed, signedBy(asked(ask), key, 1000, ""), tcp, 1000, want, keyedNext, impl.OK)
			reply.Head.Code = impl.Refused
			checkRespond(t, tell+", not signed", keyed, asked(ask), tcp, 1000, oneReply(6, reply), keyed, impl.OK)
		}
	}
}

func TestRespondUpdate(t *testing.T) {
	z := zoneWith(t, 7, changedZone)
	s := impl.Server{Zone: z}
	behind := zoneWith(t, 8, changedZone+"new A 192.0.2.1\n")
	c := impl.Change{Old: soaIn(z), New: soaIn(behind), Add: records(t, "new A 192.0.2.1")}
	for _, u := range []struct {
		conditions, changes string
		code                int64
		next                impl.Server
	}{
		{"", "+new A 192.0.2.1", impl.NoError, serverBehind(s, behind, c)},
		{"?web; !new", "+new A 192.0.2.1", impl.NoError, serverBehind(s, behind, c)},
		// Changes that leave all as it is.
		{"", "", impl.NoError, s},
		{"?web", "", impl.NoError, s},
		{"", "+new A 192.0.2.1; -new", impl.NoError, s},
		{"", "-none", impl.NoError, s},
		{"", "+alias A 192.0.2.1", impl.NoError, s},
		// Conditions that are not met, and changes that are ill.
		{"?new", "+new A 192.0.2.1", impl.NXDomain, s},
		{"!web", "+new A 192.0.2.1", impl.YXDomain, s},
		{"!web A", "+new A 192.0.2.1", impl.YXRRSet, s},
		{"?web MX", "+new A 192.0.2.1", impl.NXRRSet, s},
		{"?com.", "+new A 192.0.2.1", impl.NotZone, s},
		{"", "+com. A 192.0.2.1", impl.NotZone, s},
		{"", "-web AXFR", impl.FormErr, s},
	} {
		m := updateMessage(inEx(), asks(t, u.conditions), asks(t, u.changes))
		m.Head.ID = 77
		checkServerChange(t, fmt.Sprintf("%q, %q", u.conditions, u.changes), s, m, u.code, u.next)
	}
	// What is dropped, and what the serial becomes.
	gone := zoneWith(t, 9, changedZone)
	other := updateMessage(inEx(), nil, append(asks(t, "-web A"), soaIn(gone)))
	other.Head.RD = true
	want := mustBuild(t, dropThat(impl.ZoneRecords(gone), func(rr impl.RR) bool { return small(rr.Owner) == inEx("web") && rr.Type == impl.TypeA }), inEx())
	c = impl.Change{Old: soaIn(z), New: soaIn(gone), Del: recordsAt(z, inEx("web"), impl.TypeA)}
	checkServerChange(t, "a set goes", s, other, impl.NoError, serverBehind(s, want, c))
}

// The question of a change is looked at by the change alone: no class or name makes it another case.
func TestRespondUpdateQuestion(t *testing.T) {
	s := impl.Server{Zone: zoneWith(t, 7, changedZone)}
	for _, c := range []struct {
		q    impl.Question
		code int64
	}{
		{impl.Question{Name: inEx(), Type: impl.TypeA, Class: 1}, impl.FormErr},
		{impl.Question{Name: inEx(), Type: impl.TypeAXFR, Class: 1}, impl.FormErr},
		{impl.Question{Name: nm("com"), Type: impl.TypeA, Class: 3}, impl.FormErr},
		{impl.Question{Name: inEx(), Type: impl.TypeSOA, Class: 3}, impl.NotAuth},
		{impl.Question{Name: nm("com"), Type: impl.TypeSOA, Class: 1}, impl.NotAuth},
		{impl.Question{Name: inEx("web"), Type: impl.TypeSOA, Class: 1}, impl.NotAuth},
	} {
		m := updateMessage(inEx(), nil, asks(t, "+new A 192.0.2.1"))
		m.Questions[0] = c.q
		checkServerChange(t, fmt.Sprint(c.q), s, m, c.code, s)
	}
	m := updateMessage(nm("EXAMPLE"), nil, nil)
	checkServerChange(t, "other letters", s, m, impl.NoError, s)
}

// Each change is one more of the history, until the eldest falls out.
func TestRespondUpdateHistory(t *testing.T) {
	zone := func(serial int64) impl.Zone { return zoneWith(t, serial, "@ NS ns\nhost A 192.0.2."+itoa(int(serial))) }
	s := impl.Server{Zone: zone(1)}
	var history []impl.Change
	for n := int64(2); n < 90; n++ {
		m := updateMessage(inEx(), nil, asks(t, fmt.Sprintf("-host; +host A 192.0.2.%d", n)))
		history = append(history, impl.Change{
			Old: soaIn(zone(n - 1)), New: soaIn(zone(n)),
			Del: records(t, fmt.Sprintf("host A 192.0.2.%d", n-1)), Add: records(t, fmt.Sprintf("host A 192.0.2.%d", n)),
		})
		want := impl.Server{Zone: zone(n), History: history[max(0, len(history)-40):]}
		checkRespond(t, fmt.Sprint("change ", n), s, asked(m), n%2 == 0, 0, oneReply(6, replyTo(m, 0)), want, impl.OK)
		s = want
		if n > 45 {
			// A change that does nothing takes nothing out.
			checkRespond(t, fmt.Sprint("behind change ", n), s, asked(updateMessage(inEx(), nil, nil)), false, 0, oneReply(6, replyTo(updateMessage(inEx(), nil, nil), 0)), s, impl.OK)
		}
	}
	if len(s.History) != 40 {
		t.Errorf("the history has %d changes", len(s.History))
	}
	// What the server says is of the zone that it has then.
	ask := asking(inEx("host"), impl.TypeA, 1)
	reply := saying(replyTo(ask, 0), records(t, "host A 192.0.2.89"), nil, nil)
	checkRespond(t, "asked behind it", s, asked(ask), false, 0, oneReply(10, reply), s, impl.OK)
}

// A change of letters alone is one, too.
func TestRespondUpdateLetters(t *testing.T) {
	s := impl.Server{Zone: zoneWith(t, 4294967295, "@ NS ns\nm MX 5 mail")}
	next := zoneWith(t, 1, "@ NS ns\nm MX 5 MAIL")
	m := updateMessage(inEx(), nil, asks(t, "+M MX 5 MAIL"))
	c := impl.Change{Old: soaIn(s.Zone), New: soaIn(next), Del: records(t, "m MX 5 mail"), Add: records(t, "m MX 5 MAIL")}
	checkServerChange(t, "letters", s, m, impl.NoError, serverBehind(s, next, c))
	next = zoneWith(t, 1, "@ NS ns\nm 60 MX 5 mail")
	m = updateMessage(inEx(), nil, asks(t, "+m 60 MX 5 mail"))
	c = impl.Change{Old: soaIn(s.Zone), New: soaIn(next), Del: records(t, "m MX 5 mail"), Add: records(t, "m 60 MX 5 mail")}
	checkServerChange(t, "a time", s, m, impl.NoError, serverBehind(s, next, c))
}
