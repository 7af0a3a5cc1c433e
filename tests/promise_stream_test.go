package tests

import (
	"fmt"
	"math/rand"
	"slices"
	"strings"
	"testing"

	"loop.example/s01858/impl"
)

// cutAt is a stream's bytes as chunks of the connection 1, cut at rising places, behind its opening.
func cutAt(all string, places ...int) []impl.Event {
	events, last := []impl.Event{openConn()}, 0
	for _, at := range append(slices.Clone(places), len(all)) {
		events = append(events, chunk(1, all[last:at]))
		last = at
	}
	return events
}

// messagesOf is a stream that is answered: its messages, of which some ask, some change, some transfer, some are ill, and
// perhaps an end with something behind it.
func messagesOf(t *testing.T, r *rand.Rand, s script, n int) []string {
	t.Helper()
	p, code := begin(s)
	if code != impl.OK {
		t.Fatalf("a server = %d", code)
	}
	var out []string
	for range n {
		b := sentTo(t, r, p.s, p.now)
		if b != "" {
			out = append(out, b)
			p.answers(b, true)
		}
	}
	return out
}

// checkCut holds a stream that was cut against the same stream in one: what comes out, frame by frame; that it comes with
// the chunk in which its frame ends; and the server behind it.
func checkCut(t *testing.T, s script, all string, places []int, want []impl.Out, ends []int, next impl.Server) {
	t.Helper()
	s.events = cutAt(all, places...)
	outs, got, code := s.run()
	if code != impl.OK || len(outs) != len(want) || !sameServer(got, next) {
		t.Fatalf("cut at %v: RunServer = %d outs of %d, %s, %d", places, len(outs), len(want), tellServer(got), code)
	}
	for i, o := range outs {
		at := int64(0)
		if i > 0 {
			at = 1 + countBelow(places, ends[i])
		}
		if o.Event != at || o.Kind != want[i].Kind || o.Conn != want[i].Conn || o.To != "" || string(o.Bytes) != string(want[i].Bytes) {
			t.Fatalf("cut at %v: number %d is %+v, want %+v at %d", places, i, o, want[i], at)
		}
	}
}

// countBelow is how many places of cuts lie ahead of an end.
func countBelow(places []int, end int) int64 {
	count := int64(0)
	for _, at := range places {
		if at < end {
			count++
		}
	}
	return count
}

// wholeStream is what comes out of a stream in one, and the place in the stream behind the frame of each.
func wholeStream(t *testing.T, s script, msgs []string, tail string) (all string, want []impl.Out, ends []int, next impl.Server) {
	t.Helper()
	p, _ := begin(s)
	want, ends = []impl.Out{outOpened(0, 1)}, []int{0}
	for _, b := range msgs {
		all += stream(b)
		for _, reply := range p.answers(b, true) {
			want, ends = append(want, outBytes(1, 1, reply)), append(ends, len(all))
		}
	}
	if strings.HasPrefix(tail, "\x00\x00") {
		want, ends = append(want, outClosed(1, 1)), append(ends, len(all)+2)
	}
	all += tail
	s.events = cutAt(all)
	checkScript(t, "in one", s, want, p.s, impl.OK)
	return all, want, ends, p.s
}

// P24: the same stream, cut at every place, into bytes, and anyhow.
func TestP24(t *testing.T) {
	r := rand.New(rand.NewSource(176))
	transfers, changes := 0, 0
	for n := range 36 {
		server := someServer(t, r, apexes()[n%3])
		s := script{text: masterText(t, ownSOA(t, server.Zone)), keys: server.Keys, now: 1000}
		msgs := messagesOf(t, r, s, 5)
		tail := []string{"", "\x00", "\x00\x05abcd", "\x00\x00", "\x00\x00" + stream(docQuery), "\x00\x00\x00"}[n%6]
		all, want, ends, next := wholeStream(t, s, msgs, tail)
		if len(next.History) > 0 {
			changes++
		}
		if len(want) > len(msgs)+2 {
			transfers++
		}
		// At every place of some streams; of others at some places.
		for at := 0; at <= len(all); at += 1 + n/12*r.Intn(20) {
			checkCut(t, s, all, []int{at}, want, ends, next)
		}
		var bytes []int
		for at := range min(len(all), 900) {
			bytes = append(bytes, at)
		}
		checkCut(t, s, all, bytes, want, ends, next)
		for range 20 {
			var places []int
			for range r.Intn(12) {
				places = append(places, r.Intn(len(all)+1))
			}
			slices.Sort(places)
			checkCut(t, s, all, places, want, ends, next)
		}
	}
	if changes < 10 {
		t.Errorf("%d streams changed the zone, %d had more replies than messages", changes, transfers)
	}
}

// P24: frames are answered in their order, however long, and two streams do not mix.
func TestP24Order(t *testing.T) {
	s := impl.Server{Zone: docZone(t)}
	var first, second string
	var wantFirst, wantSecond []string
	for n := range int64(60) {
		for i, all := range []*string{&first, &second} {
			m := asking(inEx([]string{"www", "web", "none", "q.w", "ent"}[n%5]), []int64{1, 16, 255}[n%3], 1)
			m.Head.ID = n + int64(i)*1000
			if n%7 == 0 {
				m.Questions[0] = askAll(inEx())
			}
			reply, _, _ := respondOf(s, asked(m), true, 5)
			*all += stream(asked(m))
			for _, b := range reply.Messages {
				*[]*[]string{&wantFirst, &wantSecond}[i] = append(*[]*[]string{&wantFirst, &wantSecond}[i], stream(string(b)))
			}
		}
	}
	r := rand.New(rand.NewSource(177))
	for range 60 {
		events := []impl.Event{openConn(), openConn()}
		left := []string{first, second}
		for left[0] != "" || left[1] != "" {
			i := r.Intn(2)
			n := min(len(left[i]), r.Intn(200))
			events = append(events, chunk(int64(i+1), left[i][:n]))
			left[i] = left[i][n:]
		}
		outs, next, code := impl.RunServer(exampleZone, "", nil, 5, events)
		if code != impl.OK || !sameServer(next, s) {
			t.Fatalf("RunServer = %d", code)
		}
		got := map[int64][]string{}
		for _, o := range outs[2:] {
			if o.Kind != impl.OutBytes || events[o.Event].Conn != o.Conn {
				t.Fatalf("%+v came out of the event %+v", o, events[o.Event])
			}
			got[o.Conn] = append(got[o.Conn], string(o.Bytes))
		}
		if !slices.Equal(got[1], wantFirst) || !slices.Equal(got[2], wantSecond) {
			t.Fatalf("%d and %d frames, want %d and %d", len(got[1]), len(got[2]), len(wantFirst), len(wantSecond))
		}
	}
}

// changing is a script that changes a server again and again, by messages and by reloads, and the zones that it had.
func changing(t *testing.T, r *rand.Rand, apex string, n int) (script, []impl.Zone) {
	t.Helper()
	z := ownSOA(t, changeZone(t, r, apex, 8))
	s := script{text: masterText(t, z), now: 1000}
	if r.Intn(2) == 0 {
		s.keys = []impl.Key{keyOf("Key", "secret")}
	}
	p, _ := begin(s)
	zones := []impl.Zone{p.s.Zone}
	s.events = []impl.Event{openConn()}
	for len(zones) <= n {
		var e impl.Event
		b := asked(updateMessage(apex, nil, changesIn(r, p.s.Zone, 3)))
		if len(s.keys) > 0 {
			b = signedBy(b, s.keys[0], p.now, "")
		}
		switch r.Intn(3) {
		case 0:
			e = datagram("a", b)
		case 1:
			e = chunk(1, stream(b))
		case 2:
			// The serial goes up by little: each zone comes behind all ahead of it.
			list := impl.ZoneRecords(laterZone(t, r, p.s.Zone, 3))
			for i, rr := range list {
				if rr.Type == impl.TypeSOA {
					list[i].Data, _ = impl.WithSerial(rr.Data, (serialOf(p.s.Zone)+1+int64(r.Intn(3)))%4294967296)
				}
			}
			e = reloading(masterText(t, ownSOA(t, mustBuild(t, list, apex))))
		}
		if len(p.live) == 0 {
			p.happen(0, openConn())
		}
		p.happen(0, e)
		if last := zones[len(zones)-1]; !sameZone(last, p.s.Zone) {
			// Only a change that leaves the SOA's letters and its serial near can be handed on to all.
			if soaIn(p.s.Zone).Owner != apex || !isAfter(serialOf(zones[0]), serialOf(p.s.Zone)) {
				return s, zones
			}
			zones = append(zones, p.s.Zone)
		}
		s.events = append(s.events, e)
	}
	return s, zones
}

// P27: a server's history leads from the zone that it began with to the one that it has, behind every event; past 40
// changes from the zone that it had 40 changes ahead.
func TestP27(t *testing.T) {
	r := rand.New(rand.NewSource(178))
	long := 0
	for n := range 30 {
		s, zones := changing(t, r, apexes()[n%3], []int{0, 1, 3, 8, 20, 39, 40, 41, 45, 50}[n%10])
		events := s.events
		had := []impl.Zone{impl.LoadZone(s.text, "").Zone}
		for at := range len(events) + 1 {
			s.events = events[:at]
			_, next, code := s.run()
			if code != impl.OK {
				t.Fatalf("RunServer = %d", code)
			}
			if !sameZone(next.Zone, had[len(had)-1]) {
				had = append(had, next.Zone)
			}
			if len(next.History) != min(40, len(had)-1) {
				t.Fatalf("%d changes are kept of %d", len(next.History), len(had)-1)
			}
			z := had[len(had)-1-len(next.History)]
			for i, c := range next.History {
				if z, code = impl.PatchZone(z, c); code != impl.OK {
					t.Fatalf("PatchZone of the change %d = %d", i, code)
				}
				if !sameZone(z, had[len(had)-len(next.History)+i]) {
					t.Fatalf("the change %d leads to %s, not to %s", i, tellZone(z), tellZone(had[len(had)-len(next.History)+i]))
				}
			}
			if !sameZone(z, next.Zone) {
				t.Fatalf("the history leads to %s, not to %s", tellZone(z), tellZone(next.Zone))
			}
		}
		if len(had) > 41 {
			long++
		}
		if !slices.EqualFunc(had, zones, sameZone) {
			t.Fatalf("the server had %d zones, the second reading %d", len(had), len(zones))
		}
	}
	if long < 5 {
		t.Errorf("only %d histories were longer than is kept", long)
	}
}

// fetch asks a server over a stream behind a script, signed if it has keys, and is the messages that came, without their
// signatures. No message is longer than 4096 bytes.
func fetch(t *testing.T, s script, m impl.Message) [][]byte {
	t.Helper()
	ask, sum := asked(m), ""
	if len(s.keys) > 0 {
		ask = signedBy(ask, s.keys[0], s.now, "")
		sum = impl.Verify([]byte(ask), s.keys, s.now, "").Sum
	}
	s.events = append(slices.Clone(s.events), openConn(), chunk(2, stream(ask)))
	outs, _, code := s.run()
	if code != impl.OK {
		t.Fatalf("RunServer = %d", code)
	}
	var all []byte
	for _, o := range outs {
		if o.Event == int64(len(s.events)-1) {
			if o.Kind != impl.OutBytes || o.Conn != 2 {
				t.Fatalf("%+v came out", o)
			}
			all = append(all, o.Bytes...)
		}
	}
	frames, rest, ended := impl.CutFrames(nil, all)
	if len(rest) > 0 || ended {
		t.Fatalf("%d bytes are left, %t", len(rest), ended)
	}
	var out [][]byte
	for _, b := range frames {
		if len(b) > 4096 {
			t.Errorf("a message has %d bytes", len(b))
		}
		if len(s.keys) > 0 {
			v := impl.Verify(b, s.keys, s.now, sum)
			if v.Code != impl.OK || !v.Signed {
				t.Fatalf("Verify = %s", tellVerdict(v))
			}
			b = v.Body
		}
		out = append(out, b)
	}
	return out
}

// P18: what a server answers to transfers makes a receiver's zone the server's, whole or by changes, from every zone that
// the server had, behind messages and reloads that changed it.
func TestP18Server(t *testing.T) {
	r := rand.New(rand.NewSource(179))
	met := map[string]int{}
	for n := range 30 {
		s, zones := changing(t, r, apexes()[n%3], []int{1, 2, 4, 6, 44}[n%5])
		last := zones[len(zones)-1]
		for i, z := range zones {
			if i > 6 && i < len(zones)-3 {
				continue
			}
			for _, m := range []impl.Message{asking(z.Apex, impl.TypeAXFR, 1), asksFrom(z.Apex, soaIn(z)), asksFrom(z.Apex, inLetters(r, soaIn(z)))} {
				msgs := fetch(t, s, m)
				got, code := impl.TransferIn(z, m.Questions[0], 0x1234, msgs)
				if code != impl.OK || !sameZone(got, last) {
					t.Fatalf("%s became %s by %d messages, %d, not %s", tellZone(z), tellZone(got), len(msgs), code, tellZone(last))
				}
				first, _ := impl.Decode(msgs[0])
				switch {
				case m.Questions[0].Type == impl.TypeAXFR:
					met["whole"]++
				case i == len(zones)-1:
					met["alone"]++
				case len(zones)-1-i > 40:
					met["too old"]++
				case len(first.Answer) > 1 && first.Answer[1].Type == impl.TypeSOA:
					met["by changes"]++
				default:
					t.Errorf("the zone %d of %d came whole", i, len(zones))
				}
			}
		}
	}
	if met["whole"] < 100 || met["alone"] < 30 || met["too old"] < 10 || met["by changes"] < 100 {
		t.Errorf("the kinds met are %v", met)
	}
}

// P18: a zone that does not fit into one message, and changes that do not, with keys and without.
func TestP18ServerLong(t *testing.T) {
	text := func(serial int64, from, to int) string {
		out := fmt.Sprintf("$TTL 60\n@ SOA ns admin %d 1 1 1 1\n@ NS ns\n", serial)
		for n := from; n < to; n++ {
			out += fmt.Sprintf("host%d TXT %s\n", n, strings.Repeat("x", 1+n%120))
		}
		return out
	}
	for _, keys := range [][]impl.Key{nil, {keyOf("Key", "secret"), keyOf("other", "x")}, {{Name: nameOf(255), Secret: "x"}}} {
		s := script{text: text(1, 0, 300), origin: inEx(), keys: keys, now: 5, events: []impl.Event{openConn(), reloading(text(2, 100, 400)), reloading(text(3, 200, 450))}}
		var zones []impl.Zone
		for _, text := range []string{text(1, 0, 300), text(2, 100, 400), text(3, 200, 450)} {
			zones = append(zones, zoneText(t, text))
		}
		for i, z := range zones[:2] {
			for _, m := range []impl.Message{asking(inEx(), impl.TypeAXFR, 1), asksFrom(inEx(), soaIn(z))} {
				msgs := fetch(t, s, m)
				if got, code := impl.TransferIn(z, m.Questions[0], 0x1234, msgs); code != impl.OK || !sameZone(got, zones[2]) || len(msgs) < 3 {
					t.Errorf("%d keys: from the zone %d by %d messages: %d", len(keys), i, len(msgs), code)
				}
			}
		}
	}
}
