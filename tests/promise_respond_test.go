package tests

import (
	"bytes"
	"fmt"
	"math"
	"math/rand"
	"slices"
	"strings"
	"sync"
	"testing"

	"loop.example/s01858/impl"
)

// respondArgs is what the functions of chapter 15 are called with.
type respondArgs struct {
	s                         impl.Server
	b                         []byte
	tcp                       bool
	now                       int64
	m                         impl.Message
	budget, size, code, flags int64
	options                   []impl.Option
}

// callRespond calls all functions of chapter 15: with a code there is nothing beside.
func callRespond(t *testing.T, a respondArgs) {
	t.Helper()
	if e, code := impl.ReadEdns(a.m); code != impl.OK && !sameEdns(e, impl.Edns{}) {
		t.Errorf("ReadEdns = %v beside %d", e, code)
	}
	if rr, code := impl.EdnsRecord(a.size, a.code, a.flags, a.options); code != impl.OK && rr != (impl.RR{}) {
		t.Errorf("EdnsRecord = %v beside %d", rr, code)
	}
	if got := impl.Triage(a.b); got < 1 || got > 6 {
		t.Errorf("Triage = %d", got)
	}
	if m, code := impl.Truncate(a.m, a.budget); code != impl.OK && !isZero(m) {
		t.Errorf("Truncate = %s beside %d", tellMessage(m), code)
	}
	reply, s, code := impl.Respond(a.s, a.b, a.tcp, a.now)
	if code != impl.OK && (!sameReply(reply, impl.Reply{}) || !sameServer(s, impl.Server{})) {
		t.Errorf("Respond = %s, %s beside %d", tellReply(reply), tellServer(s), code)
	}
	if code == impl.OK && (reply.Case < 1 || reply.Case > 10 || (len(reply.Messages) == 0) != (reply.Case == 1)) {
		t.Errorf("Respond = %s", tellReply(reply))
	}
}

// P1: no call panics, and every call ends, whatever it is given.
func TestP1Respond(t *testing.T) {
	r := rand.New(rand.NewSource(158))
	names := append(noNames(), someNames()...)
	odd := func() int64 { return oddNumbers()[r.Intn(len(oddNumbers()))] }
	anything := func() impl.RR {
		return impl.RR{Owner: names[r.Intn(len(names))], Type: []int64{6, 41, 250, odd()}[r.Intn(4)], Class: odd(), TTL: odd(), Data: names[r.Intn(len(names))]}
	}
	for n := range 2500 {
		a := respondArgs{s: cloneServer(someServer(t, r, apexes()[n%3])), tcp: n%2 == 0, now: 1000, m: someMessage(r, 4), budget: int64(r.Intn(600))}
		a.b = []byte(sentTo(t, r, a.s, 1000))
		a.size, a.code, a.flags = int64(r.Intn(65536)), int64(r.Intn(256)), int64(r.Intn(65536))
		soa := soaIn(a.s.Zone)
		if n%12 == 0 {
			bendZone(r, &a.s.Zone)
		}
		for range r.Intn(4) {
			switch r.Intn(9) {
			case 0:
				a.s.Keys = append(a.s.Keys, impl.Key{Name: names[r.Intn(len(names))], Secret: names[r.Intn(len(names))]})
			case 1:
				a.s.History = append(a.s.History, impl.Change{Old: anything(), New: soa, Del: []impl.RR{anything()}})
			case 2:
				a.s.History = append(a.s.History, impl.Change{Old: soaOf(a.s.Zone.Apex, odd()), New: soa, Add: []impl.RR{anything()}})
			case 3:
				a.now, a.budget, a.size = odd(), odd(), odd()
			case 4:
				a.code, a.flags = odd(), odd()
			case 5:
				a.options = append(a.options, impl.Option{Code: odd(), Data: names[r.Intn(len(names))]})
			case 6:
				list := recordLists(&a.m)[r.Intn(3)]
				*list = append(*list, anything())
			case 7:
				a.b = someBytes(r, r.Intn(60))
			case 8:
				a.m.Head.ID, a.m.Head.Op = odd(), odd()
			}
		}
		callRespond(t, a)
	}
	callRespond(t, respondArgs{})
}

// P1: calls with much end, too.
func TestP1RespondMuch(t *testing.T) {
	z := mustBuild(t, begun(root), root)
	much := make([]impl.RR, 3000000)
	callRespond(t, respondArgs{
		s: impl.Server{Zone: z, History: make([]impl.Change, 1000000), Keys: make([]impl.Key, 1000000)}, b: make([]byte, 10000000),
		m: impl.Message{Questions: make([]impl.Question, 1000000), Answer: much, Authority: much, Extra: much}, options: make([]impl.Option, 3000000),
	})
	callRespond(t, respondArgs{
		s: impl.Server{Zone: z, History: []impl.Change{{New: soaIn(z), Del: much, Add: much}}}, m: impl.Message{Extra: much}, b: slices.Repeat([]byte("\xc0\x00"), 40000),
		options: []impl.Option{{Data: strings.Repeat("x", 10000000)}},
	})
	// A full zone with long names and long data, a full history, and questions of all kinds.
	list := begun(root)
	for n := range 390 {
		list = append(list, rrOf(nm(append([]string{itoa(n)}, times(120, "t")...)...), 65280, strings.Repeat("x", 60000)))
		list = append(list, rrOf(nm("a"), int64(20000+n), strings.Repeat("y", 60000)))
		if len(list) > 490 {
			break
		}
	}
	full := impl.Server{Zone: mustBuild(t, list, root)}
	long := rrOf(nameOf(255), 65280, strings.Repeat("x", 1000))
	for serial := range int64(40) {
		c := impl.Change{Old: soaOf(root, serial+4294967257), New: soaOf(root, (serial+4294967258)%4294967296), Add: slices.Repeat([]impl.RR{long}, 500)}
		full.History = append(full.History, c)
	}
	full.History[39].New = soaIn(full.Zone)
	full.History[39].Old = soaOf(root, 0)
	full.History[38].New = soaOf(root, 0)
	for i, m := range []impl.Message{
		asking(nm("a"), 255, 1), asking(root, impl.TypeAXFR, 1), asksFrom(root, soaOf(root, 0)), asksFrom(root, soaOf(root, 4294967257)),
		updateMessage(root, nil, []impl.RR{aRecord(nm("new"), 60)}), asking(nm("none"), 1, 1),
	} {
		for _, tcp := range []bool{false, true} {
			reply, _, code := impl.Respond(full, []byte(asked(withExtra(m, optOf(4096, 32768)))), tcp, 0)
			if code != impl.OK || len(reply.Messages) == 0 {
				t.Errorf("message %d: Respond = %s, %d", i, tellReply(reply), code)
			}
		}
	}
}

// P1: nothing is written into an argument, nor behind it; an answer is new memory.
func TestP1RespondMemory(t *testing.T) {
	r := rand.New(rand.NewSource(159))
	changed := 0
	for n := range 600 {
		s := cloneServer(someServer(t, r, apexes()[n%3]))
		for i, c := range s.History {
			s.History[i].Del, s.History[i].Add = behindIt(c.Del), behindIt(c.Add)
		}
		s.History = append(s.History, impl.Change{Old: impl.RR{Owner: "left"}})[:len(s.History)]
		s.Keys = append(s.Keys, impl.Key{Name: "left"})[:len(s.Keys)]
		text := sentTo(t, r, s, 1000)
		b := append([]byte(text), "left"...)[:len(text)]
		was := cloneServer(s)
		reply, next, code := impl.Respond(s, b, n%2 == 0, 1000)
		if code != impl.OK {
			t.Fatalf("Respond = %d", code)
		}
		impl.Triage(b)
		if !sameServer(s, was) || string(b) != text || string(b[:len(b)+4][len(b):]) != "left" {
			t.Fatalf("Respond wrote into an argument")
		}
		if s.History[:len(s.History)+1][len(s.History)].Old.Owner != "left" || s.Keys[:len(s.Keys)+1][len(s.Keys)].Name != "left" {
			t.Fatalf("Respond wrote behind an argument")
		}
		for _, c := range s.History {
			if !isLeft(c.Del) || !isLeft(c.Add) {
				t.Fatalf("Respond wrote behind a change")
			}
		}
		if !sameServer(s, next) {
			changed++
		}
		wantReply, want := cloneReply(reply), cloneServer(next)
		wipe(s)
		clear(b)
		if !sameReply(reply, wantReply) || !sameServer(next, want) {
			t.Fatalf("an answer shares memory with an argument")
		}
		for i := range reply.Messages {
			_ = append(reply.Messages[i], "more"...)
			clear(reply.Messages[i])
			clear(wantReply.Messages[i])
			if !sameReply(reply, wantReply) {
				t.Fatalf("two messages of an answer share memory")
			}
		}
		for i := range next.History {
			_ = append(next.History[i].Del, impl.RR{Owner: "more"})
			_ = append(next.History[i].Add, impl.RR{Owner: "more"})
		}
		if !sameServer(next, want) {
			t.Fatalf("two lists of a server share memory")
		}
		checkApartSets(t, next.Zone)
	}
	if changed < 20 {
		t.Errorf("only %d servers were changed", changed)
	}
}

// cloneReply is a reply in memory of its own.
func cloneReply(r impl.Reply) impl.Reply {
	r.Messages = slices.Clone(r.Messages)
	for i, b := range r.Messages {
		r.Messages[i] = slices.Clone(b)
	}
	return r
}

// wipe clears all lists of a server.
func wipe(s impl.Server) {
	for _, set := range s.Zone.Sets {
		clear(set.Data)
	}
	clear(s.Zone.Sets)
	for _, c := range s.History {
		clear(c.Del)
		clear(c.Add)
	}
	clear(s.History)
	clear(s.Keys)
}

// P1: what Truncate, ReadEdns and EdnsRecord answer is new memory, and they write into nothing.
func TestP1TruncateMemory(t *testing.T) {
	r := rand.New(rand.NewSource(160))
	for n := range 1000 {
		m := someMessage(r, 5)
		m.Questions = append(m.Questions, impl.Question{Name: "left"})[:len(m.Questions)]
		m.Answer, m.Authority, m.Extra = behindIt(m.Answer), behindIt(m.Authority), behindIt(append(m.Extra, optOf(512, 0, optionOf(1, "a"))))
		was := m
		was.Questions = slices.Clone(m.Questions)
		was.Answer, was.Authority, was.Extra = slices.Clone(m.Answer), slices.Clone(m.Authority), slices.Clone(m.Extra)
		budget := sizeOf(m) - int64(r.Intn(60))*int64(n%2)
		got, code := impl.Truncate(m, budget)
		if code != impl.OK {
			t.Fatalf("Truncate = %d", code)
		}
		options := []impl.Option{{Code: 1, Data: "a"}, {Code: 2, Data: "left"}}
		impl.EdnsRecord(1, 2, 3, options[:1])
		e, _ := impl.ReadEdns(impl.Message{Extra: m.Extra[len(m.Extra)-1:]})
		if !sameMessage(m, was) || !isLeft(m.Answer) || !isLeft(m.Authority) || !isLeft(m.Extra) || m.Questions[:len(m.Questions)+1][len(m.Questions)].Name != "left" {
			t.Fatalf("a call wrote into a message")
		}
		if options[0] != (impl.Option{Code: 1, Data: "a"}) || options[1].Data != "left" {
			t.Fatalf("EdnsRecord wrote into its options")
		}
		want, _ := truncateOf(was, budget)
		clear(m.Questions)
		clear(m.Answer)
		clear(m.Authority)
		clear(m.Extra)
		if !sameMessage(got, want) || len(e.Options) != 1 || e.Options[0] != (impl.Option{Code: 1, Data: "a"}) {
			t.Fatalf("an answer shares memory with a message")
		}
		_ = append(got.Questions, impl.Question{Name: "more"})
		for _, list := range recordLists(&got) {
			_ = append(*list, impl.RR{Owner: "more"})
		}
		if !sameMessage(got, want) {
			t.Fatalf("two lists of a message share memory")
		}
	}
}

// P1: many calls at the same time on the same arguments.
func TestP1RespondAtOnce(t *testing.T) {
	r := rand.New(rand.NewSource(161))
	var group sync.WaitGroup
	for n := range 20 {
		s := someServer(t, r, apexes()[n%3])
		b := []byte(sentTo(t, r, s, 1000))
		reply, next, _ := impl.Respond(s, b, true, 1000)
		for range 8 {
			group.Go(func() {
				if got, gotNext, _ := impl.Respond(s, b, true, 1000); !sameReply(got, reply) || !sameServer(gotNext, next) {
					t.Errorf("Respond = %s, want %s", tellReply(got), tellReply(reply))
				}
			})
		}
	}
	group.Wait()
}

// checkAnswered holds P21: what Triage says shows in the reply, and every message of it has QR, the ID, and not RA.
func checkAnswered(t *testing.T, s impl.Server, b []byte, tcp bool, now int64) int64 {
	t.Helper()
	triage := impl.Triage(b)
	reply, next, code := impl.Respond(s, b, tcp, now)
	if code != impl.OK {
		t.Fatalf("Respond(%x) = %d", b, code)
	}
	cases := map[int64][]int64{1: {1}, 2: {2}, 3: {3}, 4: {4}, 5: {5, 6}, 6: {5, 7, 8, 9, 10}}[triage]
	if !slices.Contains(cases, reply.Case) {
		t.Errorf("Triage(%x) = %d, and Respond = %s", b, triage, tellReply(reply))
	}
	if reply.Case == 1 && len(reply.Messages) > 0 || reply.Case != 1 && len(reply.Messages) == 0 || reply.Case != 8 && len(reply.Messages) > 1 {
		t.Errorf("Respond(%x) = %s", b, tellReply(reply))
	}
	for i, msg := range reply.Messages {
		m, code := impl.Decode(msg)
		if code != impl.OK || !m.Head.QR || m.Head.RA || !bytes.Equal(msg[:2], b[:2]) || m.Head.Op != headAt(string(b)).Op {
			t.Errorf("Respond(%x) answers %x", b, msg)
		}
		if isForm := reply.Case == 2; isForm != (len(m.Questions) == 0) && i == 0 {
			t.Errorf("Respond(%x) answers %x", b, msg)
		}
		if want := map[int64]int64{2: 1, 3: 4, 4: 0, 5: 9, 7: 5, 9: 4}; reply.Case != 6 && reply.Case != 8 && reply.Case != 10 && m.Head.Code != want[reply.Case] {
			t.Errorf("Respond(%x) answers %x", b, msg)
		}
	}
	if reply.Case != 6 && !sameServer(s, next) {
		t.Errorf("Respond(%x) changed the server", b)
	}
	return reply.Case
}

// P21: arbitrary bytes, and messages of all kinds.
func TestP21(t *testing.T) {
	r := rand.New(rand.NewSource(162))
	met := map[int64]int{}
	for n := range 6000 {
		s := someServer(t, r, apexes()[n%3])
		b := []byte(sentTo(t, r, s, 1000))
		switch n % 4 {
		case 0:
			b = []byte(turned(string(b), r.Intn(8*len(b))))
		case 1:
			if n%8 == 1 {
				b = someBytes(r, r.Intn(40))
			}
		}
		met[checkAnswered(t, s, b, n%2 == 0, 1000)]++
	}
	for number := int64(1); number <= 10; number++ {
		if met[number] < 20 {
			t.Errorf("met: %v", met)
		}
	}
}

// P21: a query, a change and a transfer, signed and with a record of TypeOPT, each turned by every bit, and cut at every byte.
func TestP21EveryBit(t *testing.T) {
	key := keyOf("key", "secret")
	s := impl.Server{Zone: chained(t, docZone(t)), Keys: []impl.Key{key}}
	for _, m := range []impl.Message{
		asking(inEx("none"), impl.TypeA, 1), asksFrom(inEx(), soaIn(s.Zone)), asking(inEx(), impl.TypeAXFR, 1),
		updateMessage(inEx(), asks(t, "?web"), asks(t, "+new A 192.0.2.1; -web")),
	} {
		m = withExtra(m, optOf(1232, 32768, optionOf(1, "ab")))
		b := signedBy(asked(m), key, 1000, "")
		for bit := range 8 * len(b) {
			checkAnswered(t, s, []byte(turned(b, bit)), bit%2 == 0, 1000)
		}
		for n := range len(b) {
			number := checkAnswered(t, s, []byte(b[:n]), true, 1000)
			if want := map[bool]int64{true: 1, false: 2}[n < 12]; number != want {
				t.Errorf("%d bytes of %x are of case %d", n, b, number)
			}
		}
		for bit := range 8 * len(asked(m)) {
			checkAnswered(t, impl.Server{Zone: s.Zone}, []byte(turned(asked(m), bit)), true, 0)
		}
	}
}

// datagramFor is a query as its sender lays it who can take so many bytes; below 0 it says nothing of that.
func datagramFor(m impl.Message, size int64) impl.Message {
	if size < 0 {
		return m
	}
	return withExtra(m, optOf(size, 32768))
}

// checkDatagram holds P22 of one query: the reply to a datagram against the one over a stream, which lacks nothing.
func checkDatagram(t *testing.T, s impl.Server, m impl.Message, size int64, key *impl.Key) (lost, cut bool) {
	t.Helper()
	b := asked(datagramFor(m, size))
	room := int64(0)
	if key != nil {
		b, room = signedBy(b, *key, 1000, ""), int64(len(key.Name)+71)
	}
	whole, _, _ := impl.Respond(s, []byte(b), true, 1000)
	reply, _, code := impl.Respond(s, []byte(b), false, 1000)
	if code != impl.OK || len(reply.Messages) != 1 || len(whole.Messages) != 1 {
		t.Fatalf("Respond = %s, %d", tellReply(reply), code)
	}
	all, _ := impl.Decode(whole.Messages[0])
	got, code := impl.Decode(reply.Messages[0])
	if all.Head.TC || code != impl.OK {
		t.Fatalf("a message of %d bytes: %d", len(whole.Messages[0]), code)
	}
	take := max(512, min(4096, size))
	if int64(len(reply.Messages[0])) > take {
		t.Errorf("%d bytes for one who takes %d", len(reply.Messages[0]), take)
	}
	if int64(len(whole.Messages[0])) <= take {
		if !bytes.Equal(whole.Messages[0], reply.Messages[0]) {
			t.Errorf("of %s only %s is left, though all fits", tellMessage(all), tellMessage(got))
		}
		return false, false
	}
	// The signature is another one: what is signed is.
	drop := func(m *impl.Message) {
		if key != nil {
			m.Extra = m.Extra[:len(m.Extra)-1]
		}
	}
	drop(&all)
	drop(&got)
	runs := runsOf(all)
	for n := 1; n <= len(runs); n++ {
		left := withoutRuns(all, runs[:n])
		if size, _ := impl.MessageSize(left); size+room > take && n < len(runs) {
			continue
		}
		if !sameMessage(left, got) {
			t.Errorf("for one who takes %d: %s is left, want %s", take, tellMessage(got), tellMessage(left))
		}
		break
	}
	if isLost := len(got.Answer) < len(all.Answer) || len(got.Authority) < len(all.Authority); isLost != got.Head.TC {
		t.Errorf("TC is %t: of %s is left %s", got.Head.TC, tellMessage(all), tellMessage(got))
	}
	return true, got.Head.TC
}

// P22: replies to datagrams of every size.
func TestP22EverySize(t *testing.T) {
	text := ""
	for n := range 25 {
		text += fmt.Sprintf("@ MX %d h%d\nb TXT text%d\nb TYPE%d \\# 3 616263\ns NS h%d\n", n, n, n, 300+n, n)
		for k := range 3 {
			text += fmt.Sprintf("h%d A 192.0.2.%d\nh%d AAAA 2001:db8::%d\n", n, k, n, k)
		}
	}
	z := zoneAnd(t, text)
	key := keyOf("key", "secret")
	s := impl.Server{Zone: z, Keys: []impl.Key{key}}
	sizes := []int64{-1, 0, 1, 255, 256, 65535}
	for size := int64(495); size < 4110; size++ {
		if size < 530 || size > 4080 || size%37 == 0 {
			sizes = append(sizes, size)
		}
	}
	for _, m := range []impl.Message{
		asking(inEx(), impl.TypeMX, 1), asking(inEx("b"), 255, 1), asking(inEx("q", "s"), impl.TypeA, 1), asking(inEx(), 255, 1),
	} {
		lost, cut := 0, 0
		for _, size := range sizes {
			for _, k := range []*impl.Key{nil, &key} {
				isLost, isCut := checkDatagram(t, s, m, size, k)
				if isLost {
					lost++
				}
				if isCut {
					cut++
				}
			}
		}
		if lost == 0 || cut == 0 && m.Questions[0].Type == 255 {
			t.Errorf("%v: %d lost something, %d have TC", m.Questions, lost, cut)
		}
	}
}

// P22: arbitrary zones and queries, of arbitrary sizes.
func TestP22Any(t *testing.T) {
	r := rand.New(rand.NewSource(163))
	lost, cut := 0, 0
	for n := range 700 {
		z := bulkyZone(t, r, apexes()[n%3])
		key := someKey(r)
		for len(key.Name) > 100 {
			key = someKey(r)
		}
		s := impl.Server{Zone: z, Keys: []impl.Key{key}}
		for range 6 {
			m := asking(z.Sets[r.Intn(len(z.Sets))].Owner, []int64{1, 2, 15, 16, 28, 255, 255, 6, 99}[r.Intn(9)], 1)
			sizes := []int64{-1, 0, 511, 512, 513, int64(r.Intn(4200)), int64(500 + r.Intn(1000)), 4096, 4097, 65535}
			isLost, isCut := checkDatagram(t, s, m, sizes[r.Intn(len(sizes))], []*impl.Key{nil, &key}[r.Intn(2)])
			if isLost {
				lost++
			}
			if isCut {
				cut++
			}
		}
	}
	if lost < 100 || cut < 50 || lost == cut {
		t.Errorf("%d lost something, %d have TC", lost, cut)
	}
}

// carried is what ReadEdns reads of a record that was carried in a message, and of one that was not; false if it does
// not fit into one.
func carried(t *testing.T, rr impl.RR) (impl.Edns, bool) {
	t.Helper()
	b, code := impl.Encode(impl.Message{Extra: []impl.RR{rr}})
	if code == impl.ErrSize {
		return impl.Edns{}, false
	}
	m, code := impl.Decode(b)
	if code != impl.OK {
		t.Fatalf("Decode = %d", code)
	}
	e, code := impl.ReadEdns(m)
	if code != impl.OK {
		t.Errorf("ReadEdns = %d", code)
	}
	return e, true
}

// checkCarried holds P28 of one record.
func checkCarried(t *testing.T, size, code, flags int64, options []impl.Option) {
	t.Helper()
	rr, c := impl.EdnsRecord(size, code, flags, options)
	if c != impl.OK {
		t.Fatalf("EdnsRecord(%d, %d, %d) = %d", size, code, flags, c)
	}
	want := impl.Edns{Present: true, Size: size, Flags: flags, Options: options}
	if e, fits := carried(t, rr); fits && !sameEdns(e, want) {
		t.Errorf("EdnsRecord(%d, %d, %d, %.200v) is read as %.200v", size, code, flags, options, e)
	}
	if e, c := impl.ReadEdns(impl.Message{Extra: []impl.RR{rr}}); c != impl.OK || !sameEdns(e, want) {
		t.Errorf("EdnsRecord(%d, %d, %d, %.200v) is read as %.200v, %d", size, code, flags, options, e, c)
	}
	if rr.TTL>>24 != code {
		t.Errorf("EdnsRecord(%d, %d, %d) has the TTL %x", size, code, flags, rr.TTL)
	}
}

// P28: at every edge of EdnsRecord's arguments.
func TestP28(t *testing.T) {
	numbers := []int64{0, 1, 127, 128, 255, 256, 511, 512, 32767, 32768, 65534, 65535}
	for _, size := range numbers {
		for _, flags := range numbers {
			for _, code := range numbers[:5] {
				checkCarried(t, size, code, flags, nil)
			}
		}
	}
	long := strings.Repeat("\x00x", 40000)
	for _, code := range numbers {
		for _, n := range []int{0, 1, 255, 256, 65507, 65508, 65509, 65530, 65531} {
			checkCarried(t, 4096, 255, 65535, []impl.Option{{Code: code, Data: long[:n]}})
		}
	}
	if rr, _ := impl.EdnsRecord(0, 0, 0, []impl.Option{{Data: long[:65508]}}); len(rr.Data)+11+12 != impl.MaxMessage {
		t.Errorf("the longest that fits into a message has %d bytes", len(rr.Data))
	} else if _, fits := carried(t, rr); !fits {
		t.Errorf("it does not fit")
	}
	for _, n := range []int{2, 3, 100, 16383} {
		checkCarried(t, 1, 2, 3, make([]impl.Option, n))
	}
	for _, n := range []int64{-1, 65536, math.MaxInt64} {
		for i := range 3 {
			a := [3]int64{1, 1, 1}
			a[i] = n
			if rr, code := impl.EdnsRecord(a[0], a[1], a[2], nil); code != impl.ErrForm || rr != (impl.RR{}) {
				t.Errorf("EdnsRecord(%v) = %v, %d", a, rr, code)
			}
		}
	}
}

// P28: arbitrary records, carried beside others.
func TestP28Any(t *testing.T) {
	r := rand.New(rand.NewSource(164))
	for range 3000 {
		var options []impl.Option
		for range r.Intn(6) {
			options = append(options, impl.Option{Code: int64(r.Intn(65536)), Data: string(someBytes(r, r.Intn(20)))})
		}
		size, code, flags := int64(r.Intn(65536)), int64(r.Intn(256)), int64(r.Intn(65536))
		checkCarried(t, size, code, flags, options)
		rr, _ := impl.EdnsRecord(size, code, flags, options)
		m := someMessage(r, 3)
		for _, list := range recordLists(&m) {
			*list = dropThat(*list, func(rr impl.RR) bool { return rr.Type == impl.TypeOPT })
		}
		m.Extra = slices.Insert(m.Extra, r.Intn(len(m.Extra)+1), rr)
		b, _ := impl.Encode(m)
		got, _ := impl.Decode(b)
		want := impl.Edns{Present: true, Size: size, Flags: flags, Options: options}
		if e, c := impl.ReadEdns(got); c != impl.OK || !sameEdns(e, want) {
			t.Errorf("ReadEdns = %v, %d, want %v", e, c, want)
		}
	}
}
