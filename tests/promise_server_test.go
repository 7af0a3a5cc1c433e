package tests

import (
	"fmt"
	"math/rand"
	"runtime"
	"slices"
	"strings"
	"sync"
	"testing"
	"time"

	"loop.example/s01858/impl"
)

// callServer calls all functions of chapter 16: with a code, or a stage ahead of the last, there is nothing beside.
func callServer(t *testing.T, s script, rest, chunk []byte) {
	t.Helper()
	l := impl.LoadZone(s.text, s.origin)
	if l.Stage < 1 || l.Stage > 3 || (l.Stage == 3) != (l.Code == impl.OK) || l.Stage < 3 && !sameZone(l.Zone, impl.Zone{}) || l.Stage == 3 && l.Place != 0 {
		t.Errorf("LoadZone = %s", tellLoaded(l))
	}
	frames, left, ended := impl.CutFrames(rest, chunk)
	if ended && len(left) > 0 || slices.ContainsFunc(frames, func(b []byte) bool { return len(b) == 0 }) {
		t.Errorf("CutFrames = %d frames, %d bytes, %t", len(frames), len(left), ended)
	}
	outs, next, code := s.run()
	if code != impl.OK && (len(outs) > 0 || !sameServer(next, impl.Server{})) {
		t.Errorf("RunServer = %d outs, %s beside %d", len(outs), tellServer(next), code)
	}
	if code == impl.OK && !isServer(next) {
		t.Errorf("RunServer leaves %s, which is not valid", tellServer(next))
	}
}

// P1: no call panics, and every call ends, whatever it is given.
func TestP1Server(t *testing.T) {
	r := rand.New(rand.NewSource(169))
	names := append(noNames(), someNames()...)
	odd := func() int64 { return oddNumbers()[r.Intn(len(oddNumbers()))] }
	for n := range 600 {
		s, _, _ := someScript(t, r, apexes()[n%3], r.Intn(12))
		for range r.Intn(5) {
			switch r.Intn(8) {
			case 0:
				s.text = string(bent(r, []byte(s.text)))
			case 1:
				s.origin = names[r.Intn(len(names))]
			case 2:
				s.keys = append(slices.Clone(s.keys), impl.Key{Name: names[r.Intn(len(names))], Secret: names[r.Intn(len(names))]})
			case 3:
				s.now = odd()
			case 4, 5:
				s.events = append(s.events, impl.Event{Kind: int64(r.Intn(7)), Conn: odd(), N: odd(), From: names[r.Intn(len(names))], Bytes: someBytes(r, r.Intn(60))})
			default:
				for i := range s.events {
					if r.Intn(4) == 0 {
						s.events[i].Bytes = bent(r, s.events[i].Bytes)
					}
					if r.Intn(9) == 0 {
						s.events[i].Kind, s.events[i].Conn = []int64{odd(), 1, 3, 6}[r.Intn(4)], []int64{odd(), 1}[r.Intn(2)]
					}
				}
			}
		}
		callServer(t, s, someBytes(r, r.Intn(9)), someBytes(r, r.Intn(30)))
	}
	callServer(t, script{}, nil, nil)
}

// P1: calls with much end, too.
func TestP1ServerMuch(t *testing.T) {
	much := strings.Repeat("x", 10000000)
	callServer(t, script{text: much, origin: much, keys: make([]impl.Key, 1000000), events: make([]impl.Event, 1000000)}, []byte(much), []byte(much))
	callServer(t, script{text: exampleZone, events: make([]impl.Event, 1000000)}, nil, []byte(much))
	callServer(t, script{text: exampleZone, keys: slices.Repeat([]impl.Key{keyOf("a", "b")}, 1000000)}, make([]byte, 65537), make([]byte, 400000))
	callServer(t, script{text: exampleZone, events: []impl.Event{{Kind: 1, From: much}, {Kind: 6, Bytes: []byte(much)}}}, []byte(much), nil)
	callServer(t, script{text: strings.Repeat("(", 40000), events: []impl.Event{{Kind: 6, Bytes: []byte(much[:400000])}}}, nil, nil)
	// A full zone: queries, changes, transfers and reloads, as many as a script may have.
	text := "$TTL 5\n@ SOA ns admin 1 1 1 1 1\n@ NS ns\n"
	for n := range 450 {
		text += fmt.Sprintf("h%d.a.b A 192.0.2.1\n", n)
	}
	full := script{text: text, origin: inEx(), now: 9}
	opt := optOf(4096, 32768)
	for n := range 990 {
		switch n % 9 {
		case 0:
			full.events = append(full.events, datagram("a", asked(updateMessage(inEx(), nil, []impl.RR{aRecord(inEx("u"+itoa(n/9%46)), 60)}))))
		case 1:
			full.events = append(full.events, openConn())
		case 2:
			full.events = append(full.events, chunk(int64(1+n/18), stream(asked(asking(inEx(), impl.TypeAXFR, 1)), asked(asksFrom(inEx(), soaOf(inEx(), 1))))))
		default:
			full.events = append(full.events, datagram("a", asked(asking(inEx("h"+itoa(n), "a", "b"), 255, 1, opt))))
		}
	}
	full.events = append(full.events, reloading(strings.Replace(text, "admin 1 ", "admin 2000 ", 1)))
	outs, next, code := full.run()
	if code != impl.OK || len(outs) < 1400 || len(next.History) != 40 || serialOf(next.Zone) != 2000 {
		t.Errorf("RunServer = %d outs, %s, %d", len(outs), tellServer(next), code)
	}
}

// P1: all workers have ended when the call answers.
func TestP1ServerGoroutines(t *testing.T) {
	before := runtime.NumGoroutine()
	events := slices.Repeat([]impl.Event{datagram("a", docQuery)}, 1000)
	for range 10 {
		if outs, _, code := impl.RunServer(exampleZone, "", nil, 0, events); code != impl.OK || len(outs) != 1000 {
			t.Errorf("RunServer = %d outs, %d", len(outs), code)
		}
	}
	// Behind its last step a worker may be on its way out still, for a moment.
	for range 100 {
		if runtime.NumGoroutine() <= before {
			return
		}
		time.Sleep(10 * time.Millisecond)
	}
	t.Errorf("%d goroutines are left, there were %d", runtime.NumGoroutine(), before)
}

// cloneScript is a script in memory of its own, with something behind each of its lists that no call may write over.
func cloneScript(s script) script {
	s.keys = append(slices.Clone(s.keys), impl.Key{Name: "left"})[:len(s.keys)]
	s.events = append(slices.Clone(s.events), impl.Event{From: "left"})[:len(s.events)]
	for i, e := range s.events {
		s.events[i].Bytes = append(slices.Clone(e.Bytes), "left"...)[:len(e.Bytes)]
	}
	return s
}

// isAsItWas tells whether a script is still the same, and nothing was written behind its lists.
func isAsItWas(s, was script) bool {
	isSame := func(a, b impl.Event) bool {
		return a.Kind == b.Kind && a.Conn == b.Conn && a.N == b.N && a.From == b.From && string(a.Bytes[:len(a.Bytes)+4]) == string(b.Bytes)+"left"
	}
	return s.text == was.text && s.origin == was.origin && s.now == was.now && slices.Equal(s.keys, was.keys) && slices.EqualFunc(s.events, was.events, isSame) &&
		s.keys[:len(s.keys)+1][len(s.keys)].Name == "left" && s.events[:len(s.events)+1][len(s.events)].From == "left"
}

// P1: nothing is written into an argument, nor behind it; an answer is new memory, and no two of its lists share any.
func TestP1ServerMemory(t *testing.T) {
	r := rand.New(rand.NewSource(170))
	for n := range 200 {
		was, want, wantNext := someScript(t, r, apexes()[n%3], 25)
		s := cloneScript(was)
		outs, next, code := s.run()
		l := impl.LoadZone(s.text, s.origin)
		if code != impl.OK || !isAsItWas(s, was) {
			t.Fatalf("RunServer wrote into an argument, or = %d", code)
		}
		for i := range s.events {
			clear(s.events[i].Bytes)
		}
		clear(s.events)
		clear(s.keys)
		if !slices.EqualFunc(outs, want, sameOut) || !sameServer(next, wantNext) {
			t.Fatalf("an answer shares memory with an argument")
		}
		for i := range outs {
			_ = append(outs[i].Bytes, "more"...)
			clear(outs[i].Bytes)
			if !slices.EqualFunc(outs[i+1:], want[i+1:], sameOut) {
				t.Fatalf("what comes out shares memory")
			}
		}
		for i := range next.History {
			_ = append(next.History[i].Del, impl.RR{Owner: "more"})
			_ = append(next.History[i].Add, impl.RR{Owner: "more"})
		}
		if !sameServer(next, wantNext) {
			t.Fatalf("two lists of a server share memory")
		}
		checkApartSets(t, next.Zone)
		checkApartSets(t, l.Zone)
	}
}

// loadFault is lines that make a text ill: at which of them, in which order of the rules, and with which code.
type loadFault struct {
	lines string
	at    int
	rank  int
	code  int64
}

// loadFaults is faults of each kind, of owners that no other fault has.
func loadFaults(n int) []loadFault {
	x := itoa(n)
	return []loadFault{
		{"q" + x + " TXT \"a\n", 0, 0, impl.ErrQuote}, {"p" + x + " A 1.2.3.4 )\n", 0, 0, impl.ErrParen},
		{"t" + x + " NOTHING x\n", 0, 1, impl.ErrType}, {"d" + x + " A 1.2.3\n", 0, 1, impl.ErrData}, {"c" + x + " CH A 1.2.3.4\n", 0, 1, impl.ErrClass},
		{"$WHAT x\n", 0, 1, impl.ErrDirective}, {"w" + x + "\n", 0, 1, impl.ErrWord}, {"l" + x + "..l A 1.2.3.4\n", 0, 1, impl.ErrLabel},
		{"o" + x + ". A 1.2.3.4\n", 0, 2, impl.ErrZone},
		{"m" + x + " A 1.2.3.4\nm" + x + " 5 A 1.2.3.5\n", 1, 3, impl.ErrMixed},
		{"@ SOA ns admin 9 1 1 1 " + x + "\n", 0, 4, impl.ErrSOA}, {"s" + x + " SOA ns admin 9 1 1 1 1\n", 0, 4, impl.ErrSOA},
		{"*.v" + x + " NS ns\n", 0, 5, impl.ErrWild}, {"*.y" + x + " DNAME ns\n", 0, 5, impl.ErrWild},
		{"e" + x + " CNAME a\ne" + x + " CNAME b\n", 1, 6, impl.ErrSingle}, {"f" + x + " DNAME a\nf" + x + " DNAME b\n", 1, 6, impl.ErrSingle},
		{"g" + x + " A 1.2.3.4\ng" + x + " CNAME b\n", 0, 7, impl.ErrSingle}, {"i" + x + " CNAME b\ni" + x + " A 1.2.3.4\n", 1, 7, impl.ErrSingle},
		{"u." + "j" + x + " A 1.2.3.4\nj" + x + " DNAME b\n", 0, 8, impl.ErrBelow},
	}
}

// P8: of several faults LoadZone tells the first: one of the text ahead of one of the zone, and by the rules' order.
func TestP8LoadZone(t *testing.T) {
	r := rand.New(rand.NewSource(171))
	met := map[int64]int{}
	for n := range 4000 {
		parts := []string{"$TTL 60\n", "@ SOA ns admin 1 1 1 1 1\n", "@ NS ns\n", "h0 A 1.2.3.4\n", "\n", "h1 A 1.2.3.4\n", "; nothing\n", "h2 A 1.2.3.4\n"}
		var faults []loadFault
		for i := range 1 + r.Intn(3) {
			all := loadFaults(10 + i)
			f := all[r.Intn(len(all))]
			if n%4 == 0 {
				f = all[8+r.Intn(len(all)-8)]
			}
			parts = slices.Insert(parts, 3+r.Intn(len(parts)-2), f.lines)
			faults = append(faults, f)
		}
		rank := slices.MinFunc(faults, func(a, b loadFault) int { return a.rank - b.rank }).rank
		// The first of these parts that breaks the first of the rules.
		line, record := int64(1), int64(0)
		for _, part := range parts {
			at := slices.IndexFunc(faults, func(f loadFault) bool { return f.lines == part && f.rank == rank })
			if at < 0 {
				line += int64(strings.Count(part, "\n"))
				if part[0] != '$' && part[0] != ';' && part[0] != '\n' {
					record += int64(strings.Count(part, "\n"))
				}
				continue
			}
			want := impl.Loaded{Stage: 2, Code: faults[at].code, Place: record + int64(faults[at].at)}
			if rank < 2 {
				want = impl.Loaded{Stage: 1, Code: faults[at].code, Place: line}
			}
			met[want.Code]++
			checkLoad(t, strings.Join(parts, ""), inEx(), want)
			break
		}
		// Without an SOA there is nothing to look at the records by.
		text := strings.Replace(strings.Join(parts, ""), "@ SOA ns admin 1 ", "@ TYPE6000 \\# 0 ; ", 1)
		if rank >= 2 && !strings.Contains(text, "SOA") {
			checkLoad(t, text, inEx(), impl.Loaded{Stage: 2, Code: impl.ErrSOA, Place: -1})
		}
	}
	if len(met) != 14 {
		t.Errorf("the codes met are %v", met)
	}
}

// queryOf is a query with an ID of its own, which asks for proofs and says what its sender can take, or neither.
func queryOf(r *rand.Rand, z impl.Zone, id int64) impl.Message {
	m := asking(deniedIn(r, z), lookTypes()[r.Intn(len(lookTypes()))], 1)
	m.Head.ID = id
	if isMetaType(m.Questions[0].Type) {
		m.Questions[0].Type = impl.TypeANY
	}
	if r.Intn(3) > 0 {
		m.Extra = []impl.RR{optOf(4096, int64(r.Intn(2)*32768))}
	}
	return m
}

// checkResolved holds a reply against what the zone says of its question; false if it was cut.
func checkResolved(t *testing.T, z impl.Zone, ask impl.Message, reply []byte) bool {
	t.Helper()
	q := ask.Questions[0]
	want, code := impl.Resolve(z, q.Name, q.Type)
	m, decoded := impl.Decode(reply)
	if code != impl.OK || decoded != impl.OK || m.Head.ID != ask.Head.ID || !slices.Equal(m.Questions, ask.Questions) {
		t.Fatalf("Resolve = %d, Decode(%x) = %s, %d", code, reply, tellMessage(m), decoded)
	}
	if m.Head.TC {
		return false
	}
	second := resultOf(z, q.Name, q.Type)
	if !sameResult(second, want) {
		t.Fatalf("Resolve(%s, %q, %d) = %s, want %s", tellZone(z), q.Name, q.Type, tellResult(want), tellResult(second))
	}
	extra := dropThat(slices.Clone(m.Extra), func(rr impl.RR) bool { return rr.Type == impl.TypeOPT })
	authority := slices.Clone(want.Authority)
	if len(ask.Extra) > 0 && ask.Extra[0].TTL > 0 {
		authority = append(authority, denyOf(z, want.Last, q.Type)...)
	}
	if m.Head.Code != want.Code || m.Head.AA != want.AA || !slices.Equal(m.Answer, want.Answer) || !slices.Equal(m.Authority, authority) {
		t.Errorf("%s, %q, %d: the reply is %s, but Resolve = %s", tellZone(z), q.Name, q.Type, tellMessage(m), tellResult(want))
	}
	// The extra list of a datagram may have lost its last records, without a sign.
	if len(extra) > len(want.Extra) || !slices.Equal(extra, want.Extra[:len(extra)]) {
		t.Errorf("%s, %q, %d: the reply is %s, but Resolve = %s", tellZone(z), q.Name, q.Type, tellMessage(m), tellResult(want))
	}
	return len(extra) == len(want.Extra)
}

// P23: what is answered to a query is what Resolve says of the zone of the text, as a datagram and over a stream.
func TestP23(t *testing.T) {
	r := rand.New(rand.NewSource(172))
	whole, codes := 0, map[int64]int{}
	for n := range 300 {
		text := masterText(t, ownSOA(t, someServer(t, r, apexes()[n%3]).Zone))
		z := impl.LoadZone(text, "").Zone
		var asks []impl.Message
		events := []impl.Event{openConn()}
		frames := ""
		for id := range int64(20) {
			m := queryOf(r, z, id)
			asks = append(asks, m)
			events = append(events, datagram(itoa(int(id)), asked(m)))
			frames += stream(asked(m))
		}
		events = append(events, chunk(1, frames))
		outs, _, code := impl.RunServer(text, "", nil, 0, events)
		if code != impl.OK || len(outs) != 41 {
			t.Fatalf("RunServer = %d outs, %d", len(outs), code)
		}
		for i, ask := range asks {
			if name := ask.Questions[0].Name; !impl.IsUnder(name, z.Apex) {
				if m, _ := impl.Decode(outs[1+i].Bytes); m.Head.Code != impl.Refused {
					t.Errorf("%q is not in the zone, but the reply is %s", name, tellMessage(m))
				}
				continue
			}
			if outs[1+i].To != itoa(i) {
				t.Fatalf("the reply %d is for %s", i, outs[1+i].To)
			}
			checkResolved(t, z, ask, outs[1+i].Bytes)
			if !checkResolved(t, z, ask, outs[21+i].Bytes[2:]) {
				t.Errorf("%s: the reply over a stream was cut", tellMessage(ask))
			}
			m, _ := impl.Decode(outs[1+i].Bytes)
			codes[m.Head.Code]++
			whole++
		}
	}
	if whole < 3000 || codes[0] < 1000 || codes[3] < 300 {
		t.Errorf("%d were answered, with the codes %v", whole, codes)
	}
}

// P23: a reply that would have more entries than a message may is ServFail, as a datagram too.
func TestP23MaxEntries(t *testing.T) {
	for _, c := range []struct {
		n    int
		code int64
	}{{398, 0}, {399, 0}, {400, 2}, {401, 2}, {450, 2}} {
		text := "$TTL 5\n@ SOA ns admin 1 1 1 1 1\n@ NS ns\n"
		for n := range c.n {
			text += fmt.Sprintf("a A 1.2.%d.%d\n", n/250, n%250)
		}
		m := asking(inEx("a"), impl.TypeA, 1)
		events := []impl.Event{openConn(), chunk(1, stream(asked(m))), datagram("a", asked(m))}
		outs, next, code := impl.RunServer(text, inEx(), nil, 0, events)
		if code != impl.OK || len(outs) != 3 {
			t.Fatalf("RunServer = %d outs, %d", len(outs), code)
		}
		want, _ := impl.Resolve(next.Zone, inEx("a"), impl.TypeA)
		if len(want.Answer) != c.n {
			t.Fatalf("Resolve = %d records", len(want.Answer))
		}
		got, _ := impl.Decode(outs[1].Bytes[2:])
		if got.Head.Code != c.code || c.code == 0 && !slices.Equal(got.Answer, want.Answer) || c.code > 0 && string(outs[1].Bytes[2:]) != asked(replyTo(m, 2)) {
			t.Errorf("%d records: the reply is %s", c.n, tellMessage(got))
		}
		if got, _ := impl.Decode(outs[2].Bytes); got.Head.Code != c.code || got.Head.TC != (c.code == 0) || len(got.Answer) > 0 {
			t.Errorf("%d records: the reply as a datagram is %s", c.n, tellMessage(got))
		}
	}
}

// answeredTo is what came out, by its receiver; each has just one.
func answeredTo(t *testing.T, outs []impl.Out) map[string]string {
	t.Helper()
	out := map[string]string{}
	for _, o := range outs {
		if _, twice := out[o.To]; twice || o.Kind != impl.OutDatagram {
			t.Fatalf("%q was answered twice, or the kind is %d", o.To, o.Kind)
		}
		out[o.To] = string(o.Bytes)
	}
	return out
}

// P25: the same queries in several orders, all at once or parted by other events, are answered the same.
func TestP25Orders(t *testing.T) {
	r := rand.New(rand.NewSource(173))
	for n := range 60 {
		server := someServer(t, r, apexes()[n%3])
		text := masterText(t, ownSOA(t, server.Zone))
		zone := impl.LoadZone(text, "").Zone
		want := map[string]string{}
		var events []impl.Event
		for i := range 40 {
			b := sentTo(t, r, impl.Server{Zone: zone, Keys: server.Keys}, 1000)
			if impl.Triage([]byte(b)) != impl.TriageQuery {
				continue
			}
			reply, _, _ := impl.Respond(impl.Server{Zone: zone, Keys: server.Keys}, []byte(b), false, 1000)
			want[itoa(i)] = string(reply.Messages[0])
			events = append(events, datagram(itoa(i), b))
		}
		for range 8 {
			r.Shuffle(len(events), func(i, k int) { events[i], events[k] = events[k], events[i] })
			mixed := slices.Clone(events)
			for range r.Intn(4) {
				mixed = slices.Insert(mixed, r.Intn(len(mixed)+1), []impl.Event{ticking(0), {Kind: 9}, datagram("x", "short"), closeConn(1)}[r.Intn(4)])
			}
			outs, next, code := impl.RunServer(text, "", server.Keys, 1000, mixed)
			got := answeredTo(t, outs)
			if code != impl.OK || !sameServer(next, impl.Server{Zone: zone, Keys: server.Keys}) || len(got) != len(want) {
				t.Fatalf("RunServer = %d outs, %d", len(outs), code)
			}
			for to, b := range want {
				if got[to] != b {
					t.Errorf("%s was answered %x, alone %x", to, got[to], b)
				}
			}
			if !slices.IsSortedFunc(outs, func(a, b impl.Out) int { return int(a.Event - b.Event) }) {
				t.Errorf("the order of events does not show in what comes out")
			}
			for _, o := range outs {
				if mixed[o.Event].From != o.To {
					t.Errorf("the event %d is of %q, but it came out for %q", o.Event, mixed[o.Event].From, o.To)
				}
			}
		}
	}
}

// P25: under every schedule: with one thread and with many, again and again, and many servers at the same time.
func TestP25Schedules(t *testing.T) {
	r := rand.New(rand.NewSource(174))
	defer runtime.GOMAXPROCS(runtime.GOMAXPROCS(0))
	for n := range 12 {
		server := someServer(t, r, apexes()[n%3])
		s := script{text: masterText(t, ownSOA(t, server.Zone)), keys: server.Keys, now: 1000}
		for i := range 150 {
			s.events = append(s.events, datagram(itoa(i), sentTo(t, r, server, 1000)))
		}
		want, next, code := scriptOf(s)
		for _, threads := range []int{1, 2, 3, 8, 32} {
			runtime.GOMAXPROCS(threads)
			for range 4 {
				checkScript(t, fmt.Sprintf("%d threads", threads), s, want, next, code)
			}
		}
		var group sync.WaitGroup
		for range 8 {
			group.Go(func() {
				if outs, got, _ := s.run(); !slices.EqualFunc(outs, want, sameOut) || !sameServer(got, next) {
					t.Errorf("at the same time: %s", tellOuts(outs, want))
				}
			})
		}
		group.Wait()
	}
}

// P26: at most 64 connections live; one that is closed makes room for just one, however it was closed.
func TestP26(t *testing.T) {
	var s script
	s.text, s.now = exampleZone, 5
	var want []impl.Out
	add := func(e impl.Event, outs ...impl.Out) {
		for i := range outs {
			outs[i].Event = int64(len(s.events))
		}
		s.events, want = append(s.events, e), append(want, outs...)
	}
	for n := range int64(64) {
		add(openConn(), outOpened(0, n+1))
	}
	add(openConn(), outRefused(0))
	add(openConn(), outRefused(0))
	// None of these closes one.
	for _, conn := range []int64{0, -1, 65, 66, 1 << 40} {
		add(closeConn(conn))
		add(chunk(conn, "\x00\x00"))
	}
	add(openConn(), outRefused(0))
	add(chunk(64, stream(docQuery)), outBytes(0, 64, docReply))
	// One is closed, once.
	add(closeConn(7), outClosed(0, 7))
	add(closeConn(7))
	add(chunk(7, "\x00\x00"))
	add(openConn(), outOpened(0, 65))
	add(openConn(), outRefused(0))
	// One ends itself, once.
	add(chunk(65, stream(docQuery)+"\x00\x00\x00\x00"), outBytes(0, 65, docReply), outClosed(0, 65))
	add(chunk(65, "\x00\x00"))
	add(closeConn(65))
	add(openConn(), outOpened(0, 66))
	add(openConn(), outRefused(0))
	// Two make room for two.
	add(closeConn(1), outClosed(0, 1))
	add(chunk(64, "\x00\x00"), outClosed(0, 64))
	add(openConn(), outOpened(0, 67))
	add(openConn(), outOpened(0, 68))
	add(openConn(), outRefused(0))
	add(chunk(68, stream(docQuery)), outBytes(0, 68, docReply))
	// All are closed, then there is room for all.
	for n := range int64(68) {
		if conn := n + 1; conn == 1 || conn == 7 || conn == 64 || conn == 65 {
			add(closeConn(conn))
		} else {
			add(closeConn(conn), outClosed(0, conn))
		}
	}
	for n := range int64(64) {
		add(openConn(), outOpened(0, 69+n))
	}
	add(openConn(), outRefused(0))
	checkScript(t, "connections", s, want, impl.Server{Zone: docZone(t)}, impl.OK)
}

// P26: arbitrary openings and closings: what comes out tells at any time which live.
func TestP26Any(t *testing.T) {
	r := rand.New(rand.NewSource(175))
	refused, ended := 0, 0
	for range 60 {
		s := script{text: exampleZone}
		for range 900 {
			conn := int64(r.Intn(150))
			s.events = append(s.events, []impl.Event{openConn(), openConn(), openConn(), closeConn(conn), chunk(conn, []string{"\x00", "\x00\x00", "\x01"}[r.Intn(3)])}[r.Intn(5)])
		}
		checkSecondScript(t, "arbitrary", s)
		outs, _, _ := s.run()
		live, last := map[int64]int{}, int64(0)
		for _, o := range outs {
			switch o.Kind {
			case impl.OutOpened:
				if o.Conn != last+1 || len(live) >= 64 {
					t.Fatalf("%d was opened behind %d, when %d live", o.Conn, last, len(live))
				}
				live[o.Conn], last = 1, o.Conn
			case impl.OutRefused:
				refused++
				if len(live) != 64 {
					t.Fatalf("one was refused when %d live", len(live))
				}
			case impl.OutClosed:
				ended++
				if live[o.Conn] == 0 {
					t.Fatalf("%d was closed, which did not live", o.Conn)
				}
				delete(live, o.Conn)
			}
		}
	}
	if refused < 500 || ended < 500 {
		t.Errorf("%d were refused, %d closed", refused, ended)
	}
}
