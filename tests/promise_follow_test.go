package tests

import (
	"fmt"
	"math/rand"
	"slices"
	"testing"

	"loop.example/s01858/impl"
)

// letter is messages that go together, by a stream or as a datagram.
type letter struct {
	msgs [][]byte
	tcp  bool
}

// road is a primary and its secondary, and what is on the way to each of them. zones are those that the primary had, in
// their order; has is the place among them of the one that the secondary was seen to have last.
type road struct {
	t               *testing.T
	r               *rand.Rand
	primary         impl.Server
	zones           []impl.Zone
	s               impl.Secondary
	has             int
	now             int64
	toOne, toSecond []letter
	leaps           []int64
	met             map[string]int
}

// someWait makes refresh, retry or expire for a road, mostly short.
func someWait(r *rand.Rand) int64 { return []int64{0, 1, 2, 3, 5, 8, 13, 21, 34, 55}[r.Intn(10)] }

// newRoad is a road at whose end a secondary begins with the primary's zone.
func newRoad(t *testing.T, r *rand.Rand, apex string, leaps ...int64) *road {
	t.Helper()
	z := changeZone(t, r, apex, 8)
	if r.Intn(2) == 0 {
		z = bulkyZone(t, r, apex)
	}
	z = withTimes(t, z, someWait(r), someWait(r), someWait(r))
	w := &road{t: t, r: r, primary: impl.Server{Zone: z}, zones: []impl.Zone{z}, now: int64(r.Intn(1000)), leaps: leaps, met: map[string]int{}}
	s, code := impl.StartSecondary(z, w.now)
	if code != impl.OK {
		t.Fatalf("StartSecondary = %d", code)
	}
	w.s = s
	return w
}

// isKnown tells whether the primary had a zone with a serial.
func (w *road) isKnown(serial int64) bool {
	return slices.ContainsFunc(w.zones, func(z impl.Zone) bool { return serialOf(z) == serial })
}

// change gives the primary another zone, by a message or as a whole. Once round the circle two zones would have the
// same serial: then nobody could tell which of them the other one has.
func (w *road) change() {
	w.t.Helper()
	next := w.primary
	if w.r.Intn(2) == 0 {
		m := updateMessage(w.primary.Zone.Apex, nil, []impl.RR{recordIn(w.r, w.primary.Zone.Apex), recordIn(w.r, w.primary.Zone.Apex)})
		_, next, _ = impl.Respond(w.primary, []byte(asked(m)), false, 0)
	} else {
		z := withTimes(w.t, laterZone(w.t, w.r, w.primary.Zone, 3), someWait(w.r), someWait(w.r), someWait(w.r))
		soa := soaIn(z)
		soa.Data, _ = impl.WithSerial(soa.Data, (serialOf(w.primary.Zone)+w.leaps[w.r.Intn(len(w.leaps))])%4294967296)
		z = mustBuild(w.t, append([]impl.RR{soa}, othersIn(z)...), z.Apex)
		c, code := impl.DiffZones(w.primary.Zone, z)
		if code != impl.OK {
			w.t.Fatalf("DiffZones = %d", code)
		}
		history := append(slices.Clone(w.primary.History), c)
		next.Zone, next.History = z, history[max(0, len(history)-40):]
	}
	if sameZone(next.Zone, w.primary.Zone) || w.isKnown(serialOf(next.Zone)) {
		return
	}
	w.primary = next
	w.zones = append(w.zones, next.Zone)
	if w.r.Intn(3) == 0 {
		w.primary.History = nil
	}
	w.met["changed"]++
}

// tell puts a message that tells of a change on the way.
func (w *road) tell() {
	apex := w.primary.Zone.Apex
	if w.r.Intn(3) == 0 {
		apex = capital(apex)
	}
	w.toSecond = append(w.toSecond, letter{one(told(int64(w.r.Intn(65536)), apex)), false})
}

// send puts what the secondary sends on the way: what asks for the zone goes by a stream, all else mostly as a datagram.
func (w *road) send(b []byte) {
	if len(b) == 0 {
		return
	}
	m, _ := messageOf(string(b))
	isZone := len(m.Questions) == 1 && m.Questions[0].Type == impl.TypeIXFR
	w.toOne = append(w.toOne, letter{[][]byte{b}, isZone || w.r.Intn(5) == 0})
}

// tick lets time come to the secondary.
func (w *road) tick() {
	w.t.Helper()
	s, b, code := impl.TickSecondary(w.s, w.now)
	if code != impl.OK {
		w.t.Fatalf("TickSecondary = %d", code)
	}
	w.s = s
	w.send(b)
}

// pick takes a letter off the way, often the last one, or leaves it there so that it comes once more.
func (w *road) pick(way *[]letter) (letter, bool) {
	if len(*way) == 0 {
		return letter{}, false
	}
	at := len(*way) - 1
	if w.r.Intn(3) == 0 {
		at = w.r.Intn(len(*way))
	}
	l := (*way)[at]
	if w.r.Intn(3) > 0 {
		*way = slices.Delete(*way, at, at+1)
	} else {
		w.met["left on the way"]++
	}
	return l, true
}

// answer lets the primary answer a letter.
func (w *road) answer(l letter) {
	w.t.Helper()
	reply, next, code := impl.Respond(w.primary, l.msgs[0], l.tcp, w.now)
	if code != impl.OK || !sameServer(next, w.primary) {
		w.t.Fatalf("Respond = %d", code)
	}
	if len(reply.Messages) > 0 {
		w.toSecond = append(w.toSecond, letter{reply.Messages, l.tcp})
	}
}

// hear lets the secondary hear a letter.
func (w *road) hear(l letter) {
	w.t.Helper()
	s, b, code := impl.HearSecondary(w.s, l.msgs, w.now)
	if code != impl.OK {
		w.t.Fatalf("HearSecondary = %d", code)
	}
	if !sameZone(s.Zone, w.s.Zone) {
		w.met["fetched"]++
		if len(l.msgs) > 1 {
			w.met["fetched in several messages"]++
		}
	}
	w.s = s
	w.send(b)
}

// cut is a letter whose stream may have ended early.
func (w *road) cut(l letter) letter {
	if len(l.msgs) > 1 && w.r.Intn(4) == 0 {
		w.met["cut"]++
		l.msgs = l.msgs[:1+w.r.Intn(len(l.msgs)-1)]
	}
	return l
}

// step is something that happens on a road on which letters are lost, late, twice, or in another order.
func (w *road) step() {
	w.t.Helper()
	switch w.r.Intn(20) {
	case 0:
		w.change()
		if w.r.Intn(2) == 0 {
			w.tell()
		}
	case 1, 2:
		w.now += int64(w.r.Intn(6))
		w.tick()
	case 3:
		w.now += someWait(w.r)
	case 4, 5:
		w.tick()
	case 6:
		if len(w.toSecond)+len(w.toOne) > 0 {
			w.met["lost"]++
			w.toSecond, w.toOne = w.toSecond[:len(w.toSecond)/2], w.toOne[:len(w.toOne)/2]
		}
	case 7, 8, 9, 10, 11, 12:
		if l, ok := w.pick(&w.toOne); ok {
			w.answer(l)
		}
	default:
		if l, ok := w.pick(&w.toSecond); ok {
			w.hear(w.cut(l))
		}
	}
}

// checkZone holds the secondary's zone against those that the primary had: none but the last seen, or a later one.
func (w *road) checkZone() {
	w.t.Helper()
	at := slices.IndexFunc(w.zones, func(z impl.Zone) bool { return sameZone(z, w.s.Zone) })
	if at < 0 {
		w.t.Fatalf("the primary never had %s", tellZone(w.s.Zone))
	}
	if at < w.has {
		w.t.Fatalf("the secondary has the zone %d behind the zone %d", at, w.has)
	}
	w.has = at
	refresh, retry, _ := timesOf(w.s.Zone)
	if w.s.Next > w.now+max(refresh, retry) {
		w.t.Fatalf("at %d: refresh %d and retry %d, but %s", w.now, refresh, retry, tellSecondary(w.s))
	}
}

// checkAnswers holds what the secondary answers to queries ahead of Until, at it and behind it, and now.
func (w *road) checkAnswers() {
	w.t.Helper()
	for _, now := range []int64{w.s.Until - 1, w.s.Until, w.s.Until + 1, w.now} {
		if now < 0 {
			continue
		}
		b := sentTo(w.t, w.r, impl.Server{Zone: w.s.Zone}, now)
		if impl.Triage([]byte(b)) != impl.TriageQuery {
			continue
		}
		m, _ := messageOf(b)
		tcp := w.r.Intn(2) == 0
		want, tell := oneReply(10, replyTo(m, impl.ServFail)), "expired"
		if now < w.s.Until {
			want, _, _ = impl.Respond(impl.Server{Zone: w.zones[w.has]}, []byte(b), tcp, now)
			tell = "answered"
		}
		w.met[tell]++
		checkAsk(w.t, "on the road", w.s, b, tcp, now, want, impl.OK)
	}
}

// P29: whatever becomes of what the primary sends, the secondary has one of its zones, never an earlier one than before,
// and answers from it until Until.
func TestP29(t *testing.T) {
	r := rand.New(rand.NewSource(184))
	met := map[string]int{}
	for n := range 120 {
		w := newRoad(t, r, apexes()[n%3], 1, 1, 2, 1000, 2147483647)
		for i := range 300 {
			w.step()
			w.checkZone()
			if i%10 == 0 {
				w.checkAnswers()
			}
		}
		if w.now >= w.s.Until {
			w.met["expired in the end"]++
		}
		if w.has == len(w.zones)-1 {
			w.met["has the last"]++
		}
		for tell, count := range w.met {
			met[tell] += count
		}
	}
	for tell, least := range map[string]int{
		"changed": 1000, "fetched": 200, "fetched in several messages": 10, "cut": 10, "lost": 300, "left on the way": 1000,
		"answered": 2000, "expired": 2000, "expired in the end": 5, "has the last": 5,
	} {
		if met[tell] < least {
			t.Errorf("met are %v, of %q too few", met, tell)
		}
	}
}

// P29: what comes late is for nothing, even behind very many askings: each has an ID of its own.
func TestP29Late(t *testing.T) {
	zones, history := threeZones(t)
	s, _ := impl.StartSecondary(zones[0], 0)
	var late [][][]byte
	keep := func(b []byte, z impl.Zone, history []impl.Change, tcp bool) [][]byte {
		reply, _, _ := impl.Respond(impl.Server{Zone: z, History: history}, b, tcp, 0)
		late = append(late, reply.Messages)
		return reply.Messages
	}
	ask := func(now int64) []byte {
		next, b, code := impl.TickSecondary(s, now)
		if code != impl.OK || len(b) == 0 {
			t.Fatalf("TickSecondary(%s, %d) = %x, %d", tellSecondary(s), now, b, code)
		}
		s = next
		return b
	}
	hear := func(msgs [][]byte, now int64) []byte {
		next, b, code := impl.HearSecondary(s, msgs, now)
		if code != impl.OK {
			t.Fatalf("HearSecondary = %d", code)
		}
		s = next
		return b
	}
	// Answers of each kind by each of the first two zones, of which none is heard in time.
	for n := range int64(30) {
		b := ask(10 * n)
		keep(b, zones[n%2], nil, false)
		keep(b, zones[n%2], nil, true)
		if n%2 == 1 {
			b = hear(late[len(late)-1], 10*n)
			keep(b, zones[1], nil, true)
			keep(b, zones[1], history[:1], true)
		}
	}
	// Then the last zone comes.
	b := ask(1000)
	b = hear(keep(b, zones[2], nil, false), 1000)
	hear(keep(b, zones[2], history, true), 1000)
	if !sameZone(s.Zone, zones[2]) {
		t.Fatalf("the secondary has %s", tellZone(s.Zone))
	}
	checkLate := func() {
		t.Helper()
		for waits := range int64(3) {
			s.Asked = waits
			for _, msgs := range late {
				checkHear(t, "late", s, msgs, 5000, s, "", impl.OK)
			}
		}
	}
	checkLate()
	ids := map[string]int{}
	for n := range int64(59000) {
		ids[string(ask(10000 + 100*n)[:2])]++
		msgs := late[n%int64(len(late))]
		checkHear(t, "late", s, msgs, 5000, s, "", impl.OK)
	}
	if len(ids) != 59000 {
		t.Errorf("59000 askings have %d IDs", len(ids))
	}
	checkLate()
	// What answers the last one of all is heard.
	s.Asked = impl.AskedSOA
	reply, _, _ := impl.Respond(impl.Server{Zone: zones[2]}, []byte(asksSOA(s.ID, inEx())), false, 0)
	checkHear(t, "in time", s, reply.Messages, 7000000, waiting(zones[2], 0, s.ID, 7000020, 7000090), "", impl.OK)
}

// P29: a zone that counts for nothing any more counts again once the primary is heard; what it answers goes by that.
func TestP29Expires(t *testing.T) {
	zones, _ := threeZones(t)
	query := asking(inEx("a"), impl.TypeA, 1)
	good := oneReply(10, saying(replyTo(query, 0), []impl.RR{rrOf(inEx("a"), impl.TypeA, "abcd")}, nil, nil))
	fail := oneReply(10, replyTo(query, impl.ServFail))
	s, _ := impl.StartSecondary(zones[0], 100)
	for round := range int64(5) {
		begin := 100 + 1000*round
		for _, now := range []int64{begin, begin + 1, begin + 59} {
			checkAsk(t, "counts", s, asked(query), false, now, good, impl.OK)
		}
		// It asks all the while, and hears nothing.
		for now := begin; now < begin+200; now += 4 {
			s, _, _ = impl.TickSecondary(s, now)
			want := good
			if now >= begin+60 {
				want = fail
			}
			checkAsk(t, "asks", s, asked(query), true, now, want, impl.OK)
		}
		checkAsk(t, "at Until", s, asked(query), false, begin+60, fail, impl.OK)
		// To be told of a change does not make it count.
		s, _, _ = impl.HearSecondary(s, one(told(1, inEx())), begin+500)
		checkAsk(t, "told", s, asked(query), false, begin+500, fail, impl.OK)
		next, b, _ := impl.TickSecondary(s, begin+1000)
		checkAsk(t, "asked", next, asked(query), false, begin+1000, fail, impl.OK)
		reply, _, _ := impl.Respond(impl.Server{Zone: zones[0]}, b, false, 0)
		s, _, _ = impl.HearSecondary(next, reply.Messages, begin+1000)
	}
}

// through lets all that the secondary sends, and all that the primary answers, come through at once.
func (w *road) through() {
	w.t.Helper()
	for len(w.toOne)+len(w.toSecond) > 0 {
		if len(w.toOne) > 0 {
			l := w.toOne[0]
			w.toOne = w.toOne[1:]
			w.answer(l)
			continue
		}
		l := w.toSecond[0]
		w.toSecond = w.toSecond[1:]
		w.hear(l)
	}
}

// checkFetched holds that the secondary has the primary's zone, as one that heard of it now.
func (w *road) checkFetched() {
	w.t.Helper()
	refresh, _, expire := timesOf(w.primary.Zone)
	want := waiting(w.primary.Zone, 0, w.s.ID, w.now+refresh, w.now+expire)
	if !sameSecondary(w.s, want) {
		w.t.Fatalf("behind the tick at %d it is %s, want %s", w.now, tellSecondary(w.s), tellSecondary(want))
	}
}

// P30: from some time on all comes through at once: behind the first tick at which it asks the secondary has the
// primary's zone, and that is no later than the longer of refresh and retry.
func TestP30(t *testing.T) {
	r := rand.New(rand.NewSource(185))
	met := map[string]int{}
	for n := range 400 {
		w := newRoad(t, r, apexes()[n%3], 1, 2, 1000)
		for range r.Intn(120) {
			w.step()
			w.checkZone()
		}
		for range r.Intn(3) {
			w.change()
		}
		// From now on: what was on the way is lost, or comes late, ahead of the tick.
		begin := w.now
		refresh, retry, _ := timesOf(w.s.Zone)
		late := w.toSecond
		w.toOne, w.toSecond = nil, nil
		kind := []string{"not told", "told", "late"}[n%3]
		switch kind {
		case "told":
			w.tell()
			w.through()
			if w.s.Next != w.now {
				t.Fatalf("told at %d, but %s", w.now, tellSecondary(w.s))
			}
		case "late":
			for _, l := range late {
				if w.s.Next > w.now {
					w.hear(l)
					w.toOne = nil
					refresh, retry, _ = timesOf(w.s.Zone)
				}
			}
		}
		met[fmt.Sprintf("%s, waiting for %d", kind, w.s.Asked)]++
		last := begin + max(refresh, retry)
		if kind == "told" {
			last = begin
		}
		has := w.s
		for ; ; w.now++ {
			if w.now > last {
				t.Fatalf("%s: from %d to %d it did not ask, refresh %d, retry %d: %s", kind, begin, last, refresh, retry, tellSecondary(w.s))
			}
			w.tick()
			if len(w.toOne) > 0 {
				break
			}
			if !sameSecondary(w.s, has) {
				t.Fatalf("it did not ask, but is %s, was %s", tellSecondary(w.s), tellSecondary(has))
			}
		}
		if !sameZone(has.Zone, w.primary.Zone) {
			met["fetched"]++
		}
		w.through()
		w.checkFetched()
		// Behind that it asks in refresh, and has it still.
		refresh, _, _ = timesOf(w.s.Zone)
		w.now += refresh - 1
		w.tick()
		if len(w.toOne) > 0 {
			t.Fatalf("it asks ahead of refresh")
		}
		w.now++
		w.tick()
		if len(w.toOne) != 1 {
			t.Fatalf("it does not ask at refresh")
		}
		w.through()
		w.checkFetched()
	}
	for _, tell := range []string{"not told", "told", "late"} {
		for waits := range 3 {
			if key := fmt.Sprintf("%s, waiting for %d", tell, waits); met[key] < 5 {
				t.Errorf("met are %v, of %q too few", met, key)
			}
		}
	}
	if met["fetched"] < 100 {
		t.Errorf("met are %v", met)
	}
}

// P30: with times at their ends, from each thing that is waited for: asked is at Next, and not a second ahead.
func TestP30Times(t *testing.T) {
	for _, refresh := range []int64{0, 1, 100, greatest} {
		for _, retry := range []int64{0, 1, 100, greatest} {
			for waits := range int64(3) {
				old := timedZone(t, 1, refresh, retry, 60)
				z := timedZone(t, 2, 5, 6, 70, rrOf(inEx("a"), impl.TypeA, "abcd"))
				primary := impl.Server{Zone: old}
				s, _ := impl.StartSecondary(old, 1000)
				from := int64(1000)
				wait := max(1, retry)
				b := []byte(nil)
				s, b, _ = impl.TickSecondary(s, from)
				if waits == impl.AskedNothing {
					reply, _, _ := impl.Respond(primary, b, false, 0)
					s, _, _ = impl.HearSecondary(s, reply.Messages, from)
					wait = max(1, refresh)
				}
				if waits == impl.AskedZone {
					reply, _, _ := impl.Respond(impl.Server{Zone: timedZone(t, 2, 1, 1, 1)}, b, false, 0)
					s, _, _ = impl.HearSecondary(s, reply.Messages, from)
				}
				if s.Asked != waits {
					t.Fatalf("it waits for %d, not %d", s.Asked, waits)
				}
				checkTick(t, "a second ahead", s, from+wait-1, s, "", impl.OK)
				for _, at := range []int64{from + wait, from + wait + 1, from + wait + 77} {
					primary := impl.Server{Zone: z}
					next, b, _ := impl.TickSecondary(s, at)
					reply, _, _ := impl.Respond(primary, b, false, 0)
					next, b, _ = impl.HearSecondary(next, reply.Messages, at)
					reply, _, _ = impl.Respond(primary, b, true, 0)
					next, _, code := impl.HearSecondary(next, reply.Messages, at)
					want := waiting(z, 0, s.ID+2, at+5, at+70)
					if code != impl.OK || !sameSecondary(next, want) {
						t.Errorf("refresh %d, retry %d, waiting for %d: %s, %d, want %s", refresh, retry, waits, tellSecondary(next), code, tellSecondary(want))
					}
				}
			}
		}
	}
}

// P30: through the server of chapter 16 and its script, by datagrams and streams as they are cut there.
func TestP30Server(t *testing.T) {
	zones, _ := threeZones(t)
	s, _ := impl.StartSecondary(zones[0], 100)
	s, ask, _ := impl.TickSecondary(s, 100)
	text := masterText(t, zones[0])
	events := []impl.Event{reloading(masterText(t, zones[1])), reloading(masterText(t, zones[2])), datagram("second", string(ask)), openConn()}
	outs, primary, code := impl.RunServer(text, "", nil, 0, events)
	if code != impl.OK || len(outs) != 4 || outs[2].To != "second" || len(primary.History) != 2 {
		t.Fatalf("RunServer = %d outs, %d", len(outs), code)
	}
	s, ask, _ = impl.HearSecondary(s, [][]byte{outs[2].Bytes}, 101)
	events = append(events, chunk(1, stream(string(ask))[:9]), chunk(1, stream(string(ask))[9:]))
	outs, _, code = impl.RunServer(text, "", nil, 0, events)
	if code != impl.OK || len(outs) != 5 {
		t.Fatalf("RunServer = %d outs, %d", len(outs), code)
	}
	frames, _, _ := impl.CutFrames(nil, outs[4].Bytes)
	checkHear(t, "through the server", s, frames, 102, waiting(zones[2], 0, 2, 122, 192), "", impl.OK)
	// The second one hands it on.
	s, _, _ = impl.HearSecondary(s, frames, 102)
	third, _ := impl.StartSecondary(zones[1], 103)
	third, ask, _ = impl.TickSecondary(third, 103)
	reply, _ := impl.AskSecondary(s, ask, false, 103)
	third, ask, _ = impl.HearSecondary(third, reply.Messages, 103)
	reply, _ = impl.AskSecondary(s, ask, true, 103)
	checkHear(t, "handed on", third, reply.Messages, 104, waiting(zones[2], 0, 2, 124, 194), "", impl.OK)
}
