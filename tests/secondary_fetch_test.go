package tests

import (
	"fmt"
	"slices"
	"strings"
	"testing"

	"loop.example/s01858/impl"
)

// fetched is the messages of a transfer with an ID, so many records in each.
func fetched(id int64, list []impl.RR, n int) [][]byte {
	questions := []impl.Question{askSome(inEx())}
	var out [][]byte
	for part := range slices.Chunk(list, n) {
		out = append(out, []byte(asked(sent(id, questions, part...))))
		questions = nil
	}
	return out
}

// threeZones are three zones one behind the other, with times that differ, and the changes between them.
func threeZones(t *testing.T) ([]impl.Zone, []impl.Change) {
	t.Helper()
	zones := []impl.Zone{
		timedZone(t, 1, 10, 4, 60, rrOf(inEx("a"), impl.TypeA, "abcd")),
		timedZone(t, 2, 11, 5, 61, rrOf(inEx("a"), impl.TypeA, "abcd"), rrOf(inEx("b"), impl.TypeTXT, st("x"))),
		timedZone(t, 5, 20, 9, 90, rrOf(inEx("B"), impl.TypeTXT, st("x")), rrOf(inEx("c"), impl.TypeTXT, st("y"))),
	}
	var history []impl.Change
	for i := range 2 {
		c, code := diffOf(zones[i], zones[i+1])
		if code != impl.OK {
			t.Fatalf("diffOf = %d", code)
		}
		history = append(history, c)
	}
	return zones, history
}

// wholeOf and changesSince are the records of a transfer.
func wholeOf(z impl.Zone) []impl.RR {
	return append(append([]impl.RR{soaIn(z)}, othersIn(z)...), soaIn(z))
}
func changesSince(z impl.Zone, history []impl.Change) []impl.RR {
	out := []impl.RR{soaIn(z)}
	for _, c := range history {
		out = append(append(append(append(out, c.Old), c.Del...), c.New), c.Add...)
	}
	return append(out, soaIn(z))
}

// Whole zones and changes, in one message and in several, are taken; the times are those of the new zone.
func TestHearSecondaryZone(t *testing.T) {
	zones, history := threeZones(t)
	for _, c := range []struct {
		tell    string
		has, to int
		list    []impl.RR
		refresh int64
		expire  int64
	}{
		{"whole, the next", 0, 1, wholeOf(zones[1]), 11, 61},
		{"whole, the last", 0, 2, wholeOf(zones[2]), 20, 90},
		{"one change", 0, 1, changesSince(zones[1], history[:1]), 11, 61},
		{"the other change", 1, 2, changesSince(zones[2], history[1:]), 20, 90},
		{"both changes", 0, 2, changesSince(zones[2], history), 20, 90},
		{"nothing new", 2, 2, []impl.RR{soaIn(zones[2])}, 20, 90},
		{"an earlier SOA alone", 2, 2, []impl.RR{soaIn(zones[0])}, 20, 90},
		{"an SOA half the circle away alone", 0, 0, []impl.RR{soaOf(inEx(), 2147483649)}, 10, 60},
		{"no change at all", 1, 1, []impl.RR{soaIn(zones[1]), soaIn(zones[1])}, 11, 61},
	} {
		for n := 1; n <= len(c.list); n++ {
			msgs := fetched(7, c.list, n)
			for _, now := range []int64{0, 99, 100, 160, 500, lastTime} {
				s := waiting(zones[c.has], impl.AskedZone, 7, 100, 160)
				want := waiting(zones[c.to], impl.AskedNothing, 7, now+c.refresh, now+c.expire)
				checkHear(t, fmt.Sprintf("%s, %d in each", c.tell, n), s, msgs, now, want, "", impl.OK)
			}
		}
	}
	// Twice: the second time nobody waits for it.
	msgs := fetched(7, wholeOf(zones[2]), 2)
	s, sent, code := impl.HearSecondary(waiting(zones[0], 2, 7, 100, 160), msgs, 103)
	if code != impl.OK || len(sent) > 0 {
		t.Fatalf("HearSecondary = %x, %d", sent, code)
	}
	checkHear(t, "twice", s, msgs, 110, s, "", impl.OK)
}

// Messages without records may come, too: as many as there may be, with the ID at its ends.
func TestHearSecondaryManyMessages(t *testing.T) {
	zones, _ := threeZones(t)
	for _, id := range []int64{0, 65535} {
		msgs := fetched(id, wholeOf(zones[1]), 1)
		empty := one(asked(sent(id, nil)))
		for len(msgs) < 3000 {
			msgs = slices.Insert(msgs, len(msgs)-1, empty[0])
		}
		s := waiting(zones[0], impl.AskedZone, id, 100, 160)
		checkHear(t, "3000 messages", s, msgs, 103, waiting(zones[1], 0, id, 114, 164), "", impl.OK)
		checkHear(t, "3001 messages", s, append(msgs, empty...), 103, impl.Secondary{}, "", impl.ErrCount)
	}
	// A change in every second message.
	first, last := secondZone(t, 1), secondZone(t, 1500)
	list := []impl.RR{soaIn(last)}
	for n := int64(1); n < 1500; n++ {
		list = append(list, soaTimed(inEx(), n, 10, 4, 60), soaTimed(inEx(), n+1, 10, 4, 60))
	}
	msgs := fetched(7, append(list, soaIn(last)), 1)
	if len(msgs) != 3000 {
		t.Fatalf("there are %d messages", len(msgs))
	}
	checkHear(t, "1499 changes", waiting(first, 2, 7, 100, 160), msgs, 103, waiting(last, 0, 7, 113, 163), "", impl.OK)
}

// Refresh and expire of the new zone at their ends; those of the old one, and retry, do not count.
func TestHearSecondaryZoneTimes(t *testing.T) {
	all := [][2]int64{{0, 1}, {1, 1}, {2, 2}, {2147483648, 2147483648}, {greatest, greatest}}
	for _, refresh := range all {
		for _, expire := range all {
			for _, other := range []int64{0, 7, greatest} {
				old, z := timedZone(t, 1, other, other, other), timedZone(t, 2, refresh[0], other, expire[0])
				c, _ := diffOf(old, z)
				for _, list := range [][]impl.RR{wholeOf(z), changesSince(z, []impl.Change{c})} {
					for _, now := range []int64{0, 500, lastTime} {
						want := waiting(z, 0, 7, now+refresh[1], now+expire[1])
						checkHear(t, fmt.Sprint("times ", refresh[0], expire[0]), waiting(old, 2, 7, lastAhead, 0), fetched(7, list, 2), now, want, "", impl.OK)
					}
				}
			}
		}
	}
}

// A whole zone is taken as TransferIn takes it, whatever its serial: only a primary that goes back would send it.
func TestHearSecondaryZoneEarlier(t *testing.T) {
	zones, _ := threeZones(t)
	for has := range zones {
		for to, z := range zones {
			s := waiting(zones[has], 2, 7, 100, 160)
			refresh, _, expire := timesOf(z)
			want := waiting(z, 0, 7, 103+refresh, 103+expire)
			checkHear(t, fmt.Sprintf("whole, from %d to %d", has, to), s, fetched(7, wholeOf(z), 2), 103, want, "", impl.OK)
		}
	}
}

// Transfers that are not taken: nothing comes of them, and they are still waited for.
func TestHearSecondaryZoneNotTaken(t *testing.T) {
	zones, history := threeZones(t)
	s := waiting(zones[0], impl.AskedZone, 7, 100, 160)
	lists := map[string][]impl.RR{"whole": wholeOf(zones[2]), "by changes": changesSince(zones[2], history)}
	for kind, list := range lists {
		for n := 1; n <= len(list); n++ {
			msgs := fetched(7, list, n)
			for tell, id := range map[string]int64{"ahead": 6, "behind": 8, "of nothing": 0} {
				checkUnheard(t, kind+", the ID "+tell, s, fetched(id, list, n))
			}
			// Cut short, within a record or behind one.
			for end := 1; end < len(msgs); end++ {
				checkUnheard(t, kind+", cut short", s, msgs[:end])
			}
			for end := 1; end < len(list); end++ {
				checkUnheard(t, kind+", records lack", s, fetched(7, list[:end], n))
			}
			last := msgs[len(msgs)-1]
			short := slices.Clone(msgs)
			short[len(short)-1] = last[:len(last)-1]
			checkUnheard(t, kind+", a byte too few", s, short)
			// Nobody asked for it.
			for _, waits := range []int64{0, 1} {
				checkUnheard(t, kind+", not asked for", waiting(zones[0], waits, 7, 100, 160), msgs)
			}
		}
		for at := range fetched(7, list, 2) {
			bend := func(do func(m *impl.Message)) [][]byte {
				msgs := fetched(7, list, 2)
				m, _ := messageOf(string(msgs[at]))
				do(&m)
				msgs[at] = []byte(asked(m))
				return msgs
			}
			for tell, msgs := range map[string][][]byte{
				"another ID":      bend(func(m *impl.Message) { m.Head.ID = 8 }),
				"no QR":           bend(func(m *impl.Message) { m.Head.QR = false }),
				"no AA":           bend(func(m *impl.Message) { m.Head.AA = false }),
				"TC":              bend(func(m *impl.Message) { m.Head.TC = true }),
				"an operation":    bend(func(m *impl.Message) { m.Head.Op = 4 }),
				"a code":          bend(func(m *impl.Message) { m.Head.Code = 5 }),
				"authority":       bend(func(m *impl.Message) { m.Authority = []impl.RR{soaIn(zones[2])} }),
				"extra":           bend(func(m *impl.Message) { m.Extra = []impl.RR{optOf(512, 0)} }),
				"a question more": bend(func(m *impl.Message) { m.Questions = append(m.Questions, askSome(inEx())) }),
				"another type":    bend(func(m *impl.Message) { m.Questions = []impl.Question{askAll(inEx())} }),
				"other letters":   bend(func(m *impl.Message) { m.Questions = []impl.Question{askSome(nm("Example"))} }),
				"another class":   bend(func(m *impl.Message) { m.Questions = []impl.Question{{Name: inEx(), Type: 251, Class: 3}} }),
				"the first again": slices.Insert(fetched(7, list, 2), at, fetched(7, list, 2)[0]),
				"not decoded":     slices.Insert(fetched(7, list, 2), at, []byte("ill")),
			} {
				checkUnheard(t, fmt.Sprintf("%s, %s in %d", kind, tell, at), s, msgs)
			}
		}
	}
	later := soaOf(inEx(), 6)
	for tell, list := range map[string][]impl.RR{
		"no record":             nil,
		"a later SOA alone":     {soaIn(zones[2])},
		"no SOA first":          othersIn(zones[2]),
		"no SOA last":           append(wholeOf(zones[2]), othersIn(zones[2])[0]),
		"another SOA last":      append(wholeOf(zones[2])[:4:4], later),
		"another SOA between":   slices.Insert(wholeOf(zones[2]), 2, later),
		"other letters":         {soaOf(nm("Example"), 5), rrOf(inEx(), impl.TypeNS, nm("ns")), soaOf(nm("Example"), 5)},
		"an SOA of another":     {soaOf(nm("examplf"), 5), rrOf(inEx(), impl.TypeNS, nm("ns")), soaOf(nm("examplf"), 5)},
		"ill data":              {rrOf(inEx(), 6, ""), rrOf(inEx(), impl.TypeNS, nm("ns")), rrOf(inEx(), 6, "")},
		"no zone":               {soaIn(zones[2]), rrOf(inEx("a"), impl.TypeA, "abcd"), soaIn(zones[2])},
		"a record elsewhere":    slices.Insert(wholeOf(zones[2]), 2, rrOf(nm("x"), impl.TypeA, "abcd")),
		"changes of another":    changesSince(zones[2], history[1:]),
		"changes out of order":  changesSince(zones[2], []impl.Change{history[1], history[0]}),
		"a change too few":      changesSince(zones[2], history[:1]),
		"a serial that is back": {soaIn(zones[0]), soaIn(zones[0]), soaOf(inEx(), 0), soaIn(zones[0])},
		"the same serial":       {soaOf(inEx(), 1), soaIn(zones[0]), soaOf(inEx(), 1), soaOf(inEx(), 1)},
		"half the circle":       {soaOf(inEx(), 2147483649), soaIn(zones[0]), soaOf(inEx(), 2147483649), soaOf(inEx(), 2147483649)},
		"what is not there":     {soaOf(inEx(), 6), soaIn(zones[0]), rrOf(inEx("x"), impl.TypeA, "abcd"), soaOf(inEx(), 6), soaOf(inEx(), 6)},
	} {
		msgs := one(asked(sent(7, []impl.Question{askSome(inEx())}, list...)))
		checkUnheard(t, tell, s, msgs)
	}
	for tell, msgs := range map[string][][]byte{
		"an SOA's answer": one(asked(tellsSOA(7, inEx(), soaIn(zones[2])))),
		"nothing":         one(""),
		"too long":        one(strings.Repeat("x", 70000)),
		"of AXFR":         one(asked(sent(7, []impl.Question{askAll(inEx())}, wholeOf(zones[2])...))),
		"no question":     one(asked(sent(7, nil, wholeOf(zones[2])...))),
	} {
		checkUnheard(t, tell, s, msgs)
	}
}

// A zone whose SOA has other letters than its apex is never fetched: TransferIn does not take it.
func TestHearSecondaryZoneLetters(t *testing.T) {
	build := func(serial int64) impl.Zone {
		return mustBuild(t, []impl.RR{soaTimed(inEx(), serial, 10, 4, 60), rrOf(inEx(), impl.TypeNS, nm("ns"))}, nm("Example"))
	}
	old, z := build(1), build(2)
	ask := asksZone(7, old)
	reply, _, code := impl.Respond(impl.Server{Zone: z}, []byte(ask), true, 0)
	if code != impl.OK || reply.Case != impl.CaseTransfer {
		t.Fatalf("Respond = %s, %d", tellReply(reply), code)
	}
	checkUnheard(t, "other letters", waiting(old, 2, 7, 100, 160), reply.Messages)
}

// From the first tick on, step by step: nothing new, told of a change, a zone by changes, a zone as a whole, and lost
// messages.
func TestSecondaryStory(t *testing.T) {
	zones, history := threeZones(t)
	primary := impl.Server{Zone: zones[0]}
	answer := func(b []byte, tcp bool) [][]byte {
		reply, _, code := impl.Respond(primary, b, tcp, 0)
		if code != impl.OK {
			t.Fatalf("Respond = %d", code)
		}
		return reply.Messages
	}
	s, _ := impl.StartSecondary(zones[0], 100)
	step := func(tell string, got impl.Secondary, sent []byte, code int64, want impl.Secondary, wantSent string) []byte {
		t.Helper()
		if code != impl.OK || !sameSecondary(got, want) || string(sent) != wantSent {
			t.Fatalf("%s: %s, %x, %d, want %s, %x", tell, tellSecondary(got), sent, code, tellSecondary(want), wantSent)
		}
		s = got
		return sent
	}
	tick := func(now int64, want impl.Secondary, wantSent string) []byte {
		t.Helper()
		got, sent, code := impl.TickSecondary(s, now)
		return step(fmt.Sprint("tick at ", now), got, sent, code, want, wantSent)
	}
	hear := func(msgs [][]byte, now int64, want impl.Secondary, wantSent string) []byte {
		t.Helper()
		got, sent, code := impl.HearSecondary(s, msgs, now)
		return step(fmt.Sprint("heard at ", now), got, sent, code, want, wantSent)
	}
	b := tick(100, waiting(zones[0], 1, 1, 104, 160), asksSOA(1, inEx()))
	hear(answer(b, false), 101, waiting(zones[0], 0, 1, 111, 161), "")
	tick(110, waiting(zones[0], 0, 1, 111, 161), "")
	// The primary has another zone, and tells of it.
	primary = impl.Server{Zone: zones[1], History: history[:1]}
	hear(one(told(9, inEx())), 105, waiting(zones[0], 0, 1, 105, 161), thanks(9, inEx()))
	b = tick(105, waiting(zones[0], 1, 2, 109, 161), asksSOA(2, inEx()))
	b = hear(answer(b, false), 106, waiting(zones[0], 2, 3, 109, 161), asksZone(3, zones[0]))
	// A transfer as a datagram is refused; over a stream it is not.
	hear(answer(b, false), 107, waiting(zones[0], 2, 3, 109, 161), "")
	hear(answer(b, true), 107, waiting(zones[1], 0, 3, 118, 168), "")
	// Nothing is heard for a while: it asks again and again.
	primary = impl.Server{Zone: zones[2]}
	tick(118, waiting(zones[1], 1, 4, 123, 168), asksSOA(4, inEx()))
	late := tick(123, waiting(zones[1], 1, 5, 128, 168), asksSOA(5, inEx()))
	b = tick(170, waiting(zones[1], 1, 6, 175, 168), asksSOA(6, inEx()))
	hear(answer(late, false), 171, waiting(zones[1], 1, 6, 175, 168), "")
	b = hear(answer(b, false), 171, waiting(zones[1], 2, 7, 175, 168), asksZone(7, zones[1]))
	lost := answer(b, true)
	// What it waits for does not come: it begins anew.
	b = tick(175, waiting(zones[1], 1, 8, 180, 168), asksSOA(8, inEx()))
	hear(lost, 176, waiting(zones[1], 1, 8, 180, 168), "")
	b = hear(answer(b, true), 177, waiting(zones[1], 2, 9, 180, 168), asksZone(9, zones[1]))
	hear(lost, 178, waiting(zones[1], 2, 9, 180, 168), "")
	hear(answer(b, true), 179, waiting(zones[2], 0, 9, 199, 269), "")
	hear(answer(b, true), 180, waiting(zones[2], 0, 9, 199, 269), "")
}
