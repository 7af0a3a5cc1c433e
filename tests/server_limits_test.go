package tests

import (
	"math"
	"slices"
	"strings"
	"testing"

	"loop.example/s01858/impl"
)

// signedAt is a query that a key signed at a time, and its reply from a server whose clock says another.
func signedAt(k impl.Key, time, now int64) (ask, reply string) {
	return signedBy(docQuery, k, time, ""), signedBy(docReply, k, now, tsigOf(docQuery, k, time, 300, "").sum)
}

// The clock shows in the time of what is signed, and in what is too old.
func TestRunServerClock(t *testing.T) {
	key := keyOf("Key", "secret")
	s := impl.Server{Zone: docZone(t), Keys: []impl.Key{key}}
	for _, c := range []struct {
		tell   string
		now    int64
		ticks  []int64
		behind int64
	}{
		{"none", 1000, nil, 1000}, {"0", 1000, []int64{0}, 1000}, {"1", 1000, []int64{1}, 1001}, {"some", 1000, []int64{100, 0, 300, 7}, 1407},
		{"below 0", 1000, []int64{-1}, 1000}, {"far below 0", 1000, []int64{math.MinInt64, -1000, -1001}, 1000}, {"below 0 between", 1000, []int64{5, -5, 5}, 1010},
		{"at 0", 0, nil, 0}, {"from 0 on", 0, []int64{lastTime}, lastTime}, {"from 0 too far", 0, []int64{lastTime + 1}, 0},
		{"at the end", lastTime, nil, lastTime}, {"at the end 0", lastTime, []int64{0}, lastTime}, {"at the end 1", lastTime, []int64{1, math.MaxInt64}, lastTime},
		{"to the end", 1000, []int64{lastTime - 1000}, lastTime}, {"one beyond", 1000, []int64{lastTime - 999}, 1000},
		{"far beyond", 1000, []int64{math.MaxInt64, math.MaxInt64 - 1000, 1 << 62, lastTime + 1}, 1000},
		{"beyond, then on", 1000, []int64{lastTime, 5}, 1005}, {"to the end, and 1", 1000, []int64{500, lastTime - 1500, 1, 0}, lastTime},
	} {
		ask, reply := signedAt(key, c.behind, c.behind)
		first, firstReply := signedAt(key, c.now, c.now)
		events, at := []impl.Event{datagram("a", first)}, int64(len(c.ticks)+1)
		for _, n := range c.ticks {
			events = append(events, ticking(n))
		}
		events = append(events, datagram("b", ask), openConn(), chunk(1, stream(ask)))
		want := []impl.Out{outDatagram(0, "a", firstReply), outDatagram(at, "b", reply), outOpened(at+1, 1), outBytes(at+2, 1, reply)}
		checkScript(t, c.tell, script{text: exampleZone, keys: s.Keys, now: c.now, events: events}, want, s, impl.OK)
	}
	// A message that was signed 300 seconds ago, and one that has become too old; one of the future, and one of now.
	old, reply := signedAt(key, 1000, 1300)
	soon, soonReply := signedAt(key, 1601, 1301)
	notAuth := asked(replyTo(asking(inEx("www"), impl.TypeA, 1), 9))
	events := []impl.Event{
		datagram("a", soon), ticking(300), datagram("b", old), datagram("c", soon), ticking(1), datagram("d", old), datagram("e", soon),
		{Kind: 5, N: 1, Conn: 400, From: "f", Bytes: []byte(old)}, datagram("g", soon),
	}
	_, lastReply := signedAt(key, 1601, 1302)
	want := []impl.Out{
		outDatagram(0, "a", notAuth), outDatagram(2, "b", reply), outDatagram(3, "c", notAuth), outDatagram(5, "d", notAuth), outDatagram(6, "e", soonReply),
		outDatagram(8, "g", lastReply),
	}
	checkScript(t, "old", script{text: exampleZone, keys: s.Keys, now: 1000, events: events}, want, s, impl.OK)
}

// What makes that a server does not begin, and the first of it.
func TestRunServerRefused(t *testing.T) {
	s := impl.Server{Zone: docZone(t)}
	eight := slices.Repeat([]impl.Key{keyOf("Key", "secret")}, 8)
	good := script{text: exampleZone, now: 5}
	full := s
	full.Keys = eight
	keyed := good
	keyed.keys = eight
	checkScript(t, "8 keys", keyed, nil, full, impl.OK)
	keyed.keys = append(slices.Clone(eight), eight[0])
	checkNoScript(t, "9 keys", keyed, impl.ErrForm)
	for _, k := range []impl.Key{{Name: "", Secret: "x"}, {Name: "x", Secret: "x"}, {Name: nm("k")}, {Name: nm("k"), Secret: strings.Repeat("x", 65)}, {Name: nm("k")[1:], Secret: "x"}} {
		for at := range 3 {
			keyed.keys = slices.Insert(slices.Clone(eight[:2]), at, k)
			checkNoScript(t, "an ill key", keyed, impl.ErrForm)
		}
	}
	for now, code := range map[int64]int64{0: 0, lastTime: 0, -1: impl.ErrForm, lastTime + 1: impl.ErrForm, math.MinInt64: impl.ErrForm, math.MaxInt64: impl.ErrForm} {
		at := good
		at.now = now
		if code == impl.OK {
			checkScript(t, "a time", at, nil, s, impl.OK)
		} else {
			checkNoScript(t, "no time", at, code)
		}
	}
	many := good
	many.events = make([]impl.Event, 1000)
	many.events[999] = datagram("a", docQuery)
	checkScript(t, "1000 events", many, []impl.Out{outDatagram(999, "a", docReply)}, s, impl.OK)
	many.events = make([]impl.Event, 1001)
	checkNoScript(t, "1001 events", many, impl.ErrCount)
	for text, code := range map[string]int64{"": impl.ErrSOA, "(": impl.ErrParen, exampleZone + "www A 1.2.3.4": impl.ErrSingle, "x": impl.ErrRelative, strings.Repeat(";", 40001): impl.ErrSize, "@ 5 A 1.2.3.4": impl.ErrRelative} {
		ill := good
		ill.text = text
		checkNoScript(t, "a text", ill, code)
	}
	origin := good
	origin.origin = "x"
	checkNoScript(t, "no origin", origin, impl.ErrForm)
	origin.origin, origin.text = inEx(), "@ 5 SOA ns admin 1 1 1 1 1\n@ 5 NS ns"
	checkScript(t, "an origin", origin, nil, impl.Server{Zone: zoneText(t, origin.text)}, impl.OK)
	// Of several the first counts.
	ill := script{text: "(", now: -1, events: slices.Repeat([]impl.Event{{Bytes: make([]byte, 500)}}, 1001)}
	checkNoScript(t, "all", ill, impl.ErrForm)
	ill.now, ill.keys = 0, make([]impl.Key, 1)
	checkNoScript(t, "a key, and more", ill, impl.ErrForm)
	ill.keys = nil
	checkNoScript(t, "events, and more", ill, impl.ErrCount)
	ill.events = ill.events[1:]
	checkNoScript(t, "bytes, and a text", ill, impl.ErrSize)
	ill.events = ill.events[1:800]
	checkNoScript(t, "a text", ill, impl.ErrParen)
}

// The bytes of a script: Bytes and From of all events, whatever their kinds.
func TestRunServerScriptSize(t *testing.T) {
	s := impl.Server{Zone: docZone(t)}
	big := strings.Repeat("x", 400000)
	for i, events := range [][]impl.Event{
		{{Kind: 1, Bytes: []byte(big)}}, {{Kind: 1, From: big}}, {{Kind: 1, From: big[:200000], Bytes: []byte(big[200000:])}},
		{{Kind: 99, From: big[:100]}, {Kind: 2, Bytes: []byte(big[:1000])}, {Kind: 3, Conn: 7, Bytes: []byte(big[1101:])}, {Kind: 5, From: "x"}},
		slices.Repeat([]impl.Event{{Kind: 4, From: big[:200], Bytes: []byte(big[:200])}}, 1000),
		{{Kind: 2}, {Kind: 3, Conn: 9, Bytes: []byte(big)}},
	} {
		run := script{text: exampleZone, now: 5, events: events}
		want, next, code := scriptOf(run)
		if code != impl.OK || !sameServer(next, s) {
			t.Fatalf("script %d = %d", i, code)
		}
		checkScript(t, "400000 bytes", run, want, next, impl.OK)
		for at := range min(len(events), 5) {
			run.events = slices.Clone(events)
			run.events[at].From += "x"
			checkNoScript(t, "one more from", run, impl.ErrSize)
			run.events = slices.Clone(events)
			run.events[at].Bytes = append(slices.Clone(run.events[at].Bytes), 'x')
			checkNoScript(t, "one more byte", run, impl.ErrSize)
		}
	}
	// A chunk as long as a script may be, of frames that are all answered.
	q := stream(docQuery)
	n := 400000 / len(q)
	events := []impl.Event{openConn(), chunk(1, strings.Repeat(q, n)+q[:400000-n*len(q)])}
	outs, next, code := impl.RunServer(exampleZone, "", nil, 5, events)
	if code != impl.OK || len(outs) != n+1 || !sameServer(next, s) || slices.ContainsFunc(outs[1:], func(o impl.Out) bool { return !sameOut(o, outBytes(1, 1, docReply)) }) {
		t.Errorf("RunServer of a long chunk = %d outs, %d", len(outs), code)
	}
}
