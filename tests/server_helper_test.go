package tests

import (
	"bytes"
	"fmt"
	"math"
	"math/rand"
	"slices"
	"strings"
	"testing"

	"loop.example/s01858/impl"
)

// loadOf says chapter 16 on LoadZone once more.
func loadOf(text, origin string) impl.Loaded {
	list, code, line := masterOf(text, origin)
	if code != impl.OK {
		return impl.Loaded{Stage: 1, Code: code, Place: line}
	}
	for _, rr := range list {
		if rr.Type != 6 {
			continue
		}
		if z, code, at := zoneOf(list, rr.Owner); code != impl.OK {
			return impl.Loaded{Stage: 2, Code: code, Place: at}
		} else {
			return impl.Loaded{Stage: 3, Zone: z}
		}
	}
	return impl.Loaded{Stage: 2, Code: 20, Place: -1}
}

func sameLoaded(a, b impl.Loaded) bool {
	return sameZone(a.Zone, b.Zone) && a.Stage == b.Stage && a.Code == b.Code && a.Place == b.Place
}

// tellLoaded writes what came of a text for a message of a test.
func tellLoaded(l impl.Loaded) string {
	return fmt.Sprintf("stage %d, code %d, place %d, %s", l.Stage, l.Code, l.Place, tellZone(l.Zone))
}

// checkLoad holds all that LoadZone answers against what it should be.
func checkLoad(t *testing.T, text, origin string, want impl.Loaded) {
	t.Helper()
	if got := impl.LoadZone(text, origin); !sameLoaded(got, want) {
		t.Errorf("LoadZone(%.300q, %q) = %s, want %s", text, origin, tellLoaded(got), tellLoaded(want))
	}
}

// framesOf says chapter 16 on CutFrames once more.
func framesOf(rest, chunk string) (frames []string, left string, ended bool) {
	if len(rest) > 65537 || len(chunk) > 400000 {
		return nil, "", false
	}
	left = rest + chunk
	for len(left) >= 2 && len(left)-2 >= int(beAt(left, 0, 2)) {
		size := int(beAt(left, 0, 2))
		if size == 0 {
			return frames, "", true
		}
		frames, left = append(frames, left[2:2+size]), left[2+size:]
	}
	return frames, left, false
}

// checkFrames holds all that CutFrames answers against what it should be.
func checkFrames(t *testing.T, rest, chunk string, frames []string, left string, ended bool) {
	t.Helper()
	got, gotLeft, gotEnded := impl.CutFrames([]byte(rest), []byte(chunk))
	isSame := slices.EqualFunc(got, frames, func(a []byte, b string) bool { return string(a) == b })
	if !isSame || string(gotLeft) != left || gotEnded != ended {
		t.Errorf("CutFrames(%.99q of %d, %.99q of %d) = %.99q, %.99q, %t, want %.99q, %.99q, %t",
			rest, len(rest), chunk, len(chunk), got, gotLeft, gotEnded, frames, left, ended)
	}
}

// stream is messages as frames of a stream.
func stream(msgs ...string) string {
	out := ""
	for _, b := range msgs {
		out += be(int64(len(b)), 2) + b
	}
	return out
}

// The events of a script.
func datagram(from, b string) impl.Event {
	return impl.Event{Kind: 1, From: from, Bytes: []byte(b)}
}
func openConn() impl.Event { return impl.Event{Kind: 2} }
func chunk(conn int64, b string) impl.Event {
	return impl.Event{Kind: 3, Conn: conn, Bytes: []byte(b)}
}
func closeConn(conn int64) impl.Event  { return impl.Event{Kind: 4, Conn: conn} }
func ticking(n int64) impl.Event       { return impl.Event{Kind: 5, N: n} }
func reloading(text string) impl.Event { return impl.Event{Kind: 6, Bytes: []byte(text)} }

// What comes out of a script.
func outDatagram(at int64, to, b string) impl.Out {
	return impl.Out{Event: at, Kind: 1, To: to, Bytes: []byte(b)}
}
func outOpened(at, conn int64) impl.Out { return impl.Out{Event: at, Kind: 2, Conn: conn} }
func outRefused(at int64) impl.Out      { return impl.Out{Event: at, Kind: 3} }
func outBytes(at, conn int64, b string) impl.Out {
	return impl.Out{Event: at, Kind: 4, Conn: conn, Bytes: []byte(stream(b))}
}
func outClosed(at, conn int64) impl.Out { return impl.Out{Event: at, Kind: 5, Conn: conn} }
func outReloaded(at int64) impl.Out     { return impl.Out{Event: at, Kind: 6} }
func outFailed(at, code int64) impl.Out { return impl.Out{Event: at, Kind: 7, Conn: code} }

func sameOut(a, b impl.Out) bool {
	return a.Event == b.Event && a.Kind == b.Kind && a.Conn == b.Conn && a.To == b.To && bytes.Equal(a.Bytes, b.Bytes)
}

// tellOuts writes what came out for a message of a test: the first that differ.
func tellOuts(got, want []impl.Out) string {
	at := 0
	for at < len(got) && at < len(want) && sameOut(got[at], want[at]) {
		at++
	}
	tell := func(list []impl.Out) string {
		if at == len(list) {
			return "nothing"
		}
		o := list[at]
		return fmt.Sprintf("event %d, kind %d, conn %d, to %q, %.300x", o.Event, o.Kind, o.Conn, o.To, o.Bytes)
	}
	return fmt.Sprintf("%d outs of %d wanted; number %d is %s, want %s", len(got), len(want), at, tell(got), tell(want))
}

// tellEvents writes a script for a message of a test.
func tellEvents(events []impl.Event) string {
	out := ""
	for i, e := range events[:min(len(events), 30)] {
		out += fmt.Sprintf("\n%d: kind %d, conn %d, n %d, from %q, %.200x", i, e.Kind, e.Conn, e.N, e.From, e.Bytes)
	}
	return out
}

// script is what a server is run with.
type script struct {
	text, origin string
	keys         []impl.Key
	now          int64
	events       []impl.Event
}

func (s script) run() ([]impl.Out, impl.Server, int64) {
	return impl.RunServer(s.text, s.origin, s.keys, s.now, s.events)
}

// checkScript holds all that RunServer answers against what it should be.
func checkScript(t *testing.T, tell string, s script, want []impl.Out, next impl.Server, code int64) {
	t.Helper()
	got, gotNext, gotCode := s.run()
	if gotCode != code {
		t.Errorf("%s: RunServer = %d, want %d", tell, gotCode, code)
	}
	if !slices.EqualFunc(got, want, sameOut) {
		t.Errorf("%s: RunServer = %s%s", tell, tellOuts(got, want), tellEvents(s.events))
	}
	if !sameServer(gotNext, next) {
		t.Errorf("%s: behind RunServer is %s, want %s", tell, tellServer(gotNext), tellServer(next))
	}
}

// checkNoScript holds that a script is refused, with nothing beside the code.
func checkNoScript(t *testing.T, tell string, s script, code int64) {
	t.Helper()
	checkScript(t, tell, s, nil, impl.Server{}, code)
}

// serving is a server at work, as the second reading of chapter 16 knows it: what is left of each connection ever, and
// which of them live.
type serving struct {
	s    impl.Server
	now  int64
	left []string
	live []bool
	outs []impl.Out
}

// begin is the server of a text; the code if there is none.
func begin(s script) (*serving, int64) {
	size := 0
	for _, e := range s.events {
		size += len(e.Bytes) + len(e.From)
	}
	l := loadOf(s.text, s.origin)
	switch {
	case len(s.keys) > 8 || slices.ContainsFunc(s.keys, func(k impl.Key) bool { return !isKey(k) }) || s.now < 0 || s.now > lastTime:
		return nil, impl.ErrForm
	case len(s.events) > 1000:
		return nil, impl.ErrCount
	case size > 400000:
		return nil, impl.ErrSize
	case l.Stage < 3:
		return nil, l.Code
	}
	return &serving{s: impl.Server{Zone: l.Zone, Keys: s.keys}, now: s.now}, impl.OK
}

// answers is the messages that are answered to one.
func (p *serving) answers(b string, tcp bool) []string {
	reply, next, _ := respondOf(p.s, b, tcp, p.now)
	p.s = next
	var out []string
	for _, b := range reply.Messages {
		out = append(out, string(b))
	}
	return out
}

// isLive tells whether a connection lives.
func (p *serving) isLive(conn int64) bool {
	return conn >= 1 && conn <= int64(len(p.live)) && p.live[conn-1]
}

// lives is how many connections live.
func (p *serving) lives() int {
	count := 0
	for _, live := range p.live {
		if live {
			count++
		}
	}
	return count
}

// reload is the code of a reload.
func (p *serving) reload(text string) int64 {
	l := loadOf(text, p.s.Zone.Apex)
	switch {
	case l.Stage < 3:
		return l.Code
	case l.Zone.Apex != p.s.Zone.Apex:
		return 22
	case !isAfter(serialOf(p.s.Zone), serialOf(l.Zone)):
		return 27
	}
	c, _ := diffOf(p.s.Zone, l.Zone)
	history := append(slices.Clone(p.s.History), c)
	p.s.Zone, p.s.History = l.Zone, history[max(0, len(history)-40):]
	return 0
}

// chunk is bytes of a connection that lives.
func (p *serving) chunk(at, conn int64, b string) {
	frames, left, ended := framesOf(p.left[conn-1], b)
	p.left[conn-1] = left
	for _, frame := range frames {
		for _, b := range p.answers(frame, true) {
			p.outs = append(p.outs, outBytes(at, conn, b))
		}
	}
	if ended {
		p.live[conn-1] = false
		p.outs = append(p.outs, outClosed(at, conn))
	}
}

// happen is an event at its place.
func (p *serving) happen(at int64, e impl.Event) {
	switch {
	case e.Kind == 1:
		for _, b := range p.answers(string(e.Bytes), false) {
			p.outs = append(p.outs, outDatagram(at, e.From, b))
		}
	case e.Kind == 2 && p.lives() < 64:
		p.left, p.live = append(p.left, ""), append(p.live, true)
		p.outs = append(p.outs, outOpened(at, int64(len(p.live))))
	case e.Kind == 2:
		p.outs = append(p.outs, outRefused(at))
	case e.Kind == 3 && p.isLive(e.Conn):
		p.chunk(at, e.Conn, string(e.Bytes))
	case e.Kind == 4 && p.isLive(e.Conn):
		p.live[e.Conn-1] = false
		p.outs = append(p.outs, outClosed(at, e.Conn))
	case e.Kind == 5 && e.N >= 0 && e.N <= lastTime-p.now:
		p.now += e.N
	case e.Kind == 6:
		if code := p.reload(string(e.Bytes)); code != impl.OK {
			p.outs = append(p.outs, outFailed(at, code))
		} else {
			p.outs = append(p.outs, outReloaded(at))
		}
	}
}

// scriptOf says chapter 16 on RunServer once more.
func scriptOf(s script) ([]impl.Out, impl.Server, int64) {
	p, code := begin(s)
	if code != impl.OK {
		return nil, impl.Server{}, code
	}
	for i, e := range s.events {
		p.happen(int64(i), e)
	}
	return p.outs, p.s, impl.OK
}

// checkSecondScript holds RunServer against its second reading.
func checkSecondScript(t *testing.T, tell string, s script) {
	t.Helper()
	want, next, code := scriptOf(s)
	checkScript(t, tell, s, want, next, code)
}

// masterText is the text of a zone whose SOA has the letters of the apex.
func masterText(t *testing.T, z impl.Zone) string {
	t.Helper()
	text, code := impl.ShowMaster(impl.ZoneRecords(z))
	if code != impl.OK {
		t.Fatalf("ShowMaster(%s) = %d", tellZone(z), code)
	}
	return text
}

// writer makes a script event by event, for a server as it is behind those ahead. What is not yet sent of a stream is
// kept by its connection.
type writer struct {
	t      *testing.T
	r      *rand.Rand
	p      *serving
	unsent map[int64]string
}

// conn is the number of a connection, mostly of one that lives.
func (w *writer) conn() int64 {
	last := int64(len(w.p.live))
	if w.r.Intn(8) == 0 {
		return []int64{0, -1, last + 1, 1, math.MaxInt64, math.MinInt64}[w.r.Intn(6)]
	}
	return 1 + w.r.Int63n(last+1)
}

// chunk is the next bytes of a stream, cut anywhere.
func (w *writer) chunk() impl.Event {
	conn := w.conn()
	for range w.r.Intn(4) {
		w.unsent[conn] += stream(sentTo(w.t, w.r, w.p.s, w.p.now))
	}
	if w.r.Intn(12) == 0 {
		w.unsent[conn] += "\x00\x00"
	}
	all := w.unsent[conn]
	n := len(all)
	if w.r.Intn(2) == 0 {
		n = w.r.Intn(len(all) + 1)
	}
	w.unsent[conn] = all[n:]
	return chunk(conn, all[:n])
}

// reload is a zone's text, mostly of one that comes behind.
func (w *writer) reload() impl.Event {
	z := ownSOA(w.t, laterZone(w.t, w.r, w.p.s.Zone, 3))
	text := masterText(w.t, z)
	switch w.r.Intn(10) {
	case 0:
		text = masterText(w.t, ownSOA(w.t, w.p.s.Zone))
	case 1:
		text += []string{"(", "\"", "@ A 1.2.3.4\n", "$TTL 5\nx A 1.2.3\n"}[w.r.Intn(4)]
	case 2:
		text = text[w.r.Intn(len(text)):]
	case 3:
		text = strings.ToUpper(text)
	}
	return reloading(text)
}

// event is the next event.
func (w *writer) event() impl.Event {
	switch w.r.Intn(12) {
	case 0:
		return openConn()
	case 1, 2, 3:
		return w.chunk()
	case 4:
		return closeConn(w.conn())
	case 5:
		all := []int64{0, 1, 299, 300, 301, -1, lastTime - w.p.now, lastTime - w.p.now + 1, math.MaxInt64, math.MinInt64}
		return ticking(all[w.r.Intn(len(all)-4*min(1, w.r.Intn(9)))])
	case 6:
		return w.reload()
	case 7:
		e := w.chunk()
		e.Kind = []int64{0, 7, 99, -1, math.MaxInt64, math.MinInt64}[w.r.Intn(6)]
		return e
	}
	return datagram([]string{"", "a", "b", "\x00\xff"}[w.r.Intn(4)], sentTo(w.t, w.r, w.p.s, w.p.now))
}

// someScript makes a script of so many events, and what should come of it.
func someScript(t *testing.T, r *rand.Rand, apex string, n int) (script, []impl.Out, impl.Server) {
	t.Helper()
	server := someServer(t, r, apex)
	s := script{text: masterText(t, ownSOA(t, server.Zone)), keys: server.Keys, now: 1000}
	p, code := begin(s)
	if code != impl.OK {
		t.Fatalf("a server of %s = %d", s.text, code)
	}
	w := &writer{t: t, r: r, p: p, unsent: map[int64]string{}}
	for at := range n {
		e := w.event()
		if at < 2 {
			e = openConn()
		}
		p.happen(int64(at), e)
		s.events = append(s.events, e)
	}
	return s, p.outs, p.s
}
