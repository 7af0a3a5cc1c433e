package tests

import (
	"bytes"
	"math/rand"
	"slices"
	"strings"
	"testing"

	"loop.example/s01858/impl"
)

// secondaryArgs is what the functions of chapter 17 are called with.
type secondaryArgs struct {
	s    impl.Secondary
	msgs [][]byte
	b    []byte
	tcp  bool
	now  int64
}

// checkLeft holds what a call left: with a code nothing, else a secondary, and a message if anything is sent.
func checkLeft(t *testing.T, call string, s impl.Secondary, sent []byte, code int64) {
	t.Helper()
	switch {
	case code != impl.OK && (!sameSecondary(s, impl.Secondary{}) || len(sent) > 0):
		t.Errorf("%s = %s, %x beside %d", call, tellSecondary(s), sent, code)
	case code == impl.OK && !isSecondary(s):
		t.Errorf("%s = %s, which is not valid", call, tellSecondary(s))
	}
	if m, code := messageOf(string(sent)); len(sent) > 0 && (code != impl.OK || len(m.Questions) != 1) {
		t.Errorf("%s sends %x", call, sent)
	}
}

// callSecondary calls all functions of chapter 17.
func callSecondary(t *testing.T, a secondaryArgs) {
	t.Helper()
	s, code := impl.StartSecondary(a.s.Zone, a.now)
	checkLeft(t, "StartSecondary", s, nil, code)
	s, sent, code := impl.TickSecondary(a.s, a.now)
	checkLeft(t, "TickSecondary", s, sent, code)
	s, sent, code = impl.HearSecondary(a.s, a.msgs, a.now)
	checkLeft(t, "HearSecondary", s, sent, code)
	reply, code := impl.AskSecondary(a.s, a.b, a.tcp, a.now)
	if code != impl.OK && !sameReply(reply, impl.Reply{}) || code == impl.OK && (reply.Case < 1 || reply.Case > 10 || (len(reply.Messages) == 0) != (reply.Case == 1)) {
		t.Errorf("AskSecondary = %s, %d", tellReply(reply), code)
	}
}

// P1: no call panics, and every call ends, whatever it is given.
func TestP1Secondary(t *testing.T) {
	r := rand.New(rand.NewSource(181))
	names := append(noNames(), someNames()...)
	odd := func() int64 { return append(oddNumbers(), oddTimes()...)[r.Intn(len(oddNumbers())+len(oddTimes()))] }
	for n := range 3000 {
		s, primary := anySecondary(t, r, apexes()[n%3])
		a := secondaryArgs{s: cloneSecondary(s), msgs: heardOf(t, r, s, primary), b: []byte(sentTo(t, r, impl.Server{Zone: s.Zone}, 1000)), tcp: n%2 == 0, now: someTime(r)}
		for range r.Intn(4) {
			switch r.Intn(9) {
			case 0:
				a.s.Zone.Apex = names[r.Intn(len(names))]
			case 1:
				bendZone(r, &a.s.Zone)
			case 2:
				a.s.Asked, a.s.ID = []int64{odd(), 1, 2}[r.Intn(3)], []int64{odd(), a.s.ID}[r.Intn(2)]
			case 3:
				a.s.Next, a.s.Until = odd(), odd()
			case 4:
				a.now = odd()
			case 5:
				a.msgs = append(a.msgs, []byte(names[r.Intn(len(names))]), someBytes(r, r.Intn(60)))
			case 6:
				if len(a.msgs) > 0 {
					at := r.Intn(len(a.msgs))
					a.msgs[at] = bent(r, a.msgs[at])
				}
			case 7:
				a.b = bent(r, a.b)
			case 8:
				a.b, a.msgs = someBytes(r, r.Intn(60)), one(string(someBytes(r, r.Intn(60))))
			}
			if impl.CheckZone(a.s.Zone) != impl.OK {
				break
			}
		}
		callSecondary(t, a)
	}
	callSecondary(t, secondaryArgs{})
	callSecondary(t, secondaryArgs{s: waiting(secondZone(t, 1), 2, 0, 0, 0), msgs: [][]byte{nil, {}, nil}})
}

// P1: calls with much end, too.
func TestP1SecondaryMuch(t *testing.T) {
	z := secondZone(t, 1)
	much := make([]byte, 10000000)
	for waits := range int64(3) {
		callSecondary(t, secondaryArgs{s: waiting(impl.Zone{Apex: inEx(), Sets: make([]impl.Set, 3000000)}, waits, 7, 0, 0), msgs: make([][]byte, 3000000), b: much})
		callSecondary(t, secondaryArgs{s: waiting(z, waits, 7, 0, 0), msgs: make([][]byte, 3000000), b: much})
		callSecondary(t, secondaryArgs{s: waiting(z, waits, 7, 0, 0), msgs: [][]byte{much}, b: much[:65535]})
		callSecondary(t, secondaryArgs{s: waiting(z, waits, 7, 0, 0), msgs: slices.Repeat([][]byte{bytes.Repeat([]byte("\xc0\x00"), 32767)}, 3000), b: bytes.Repeat([]byte("\xc0\x00"), 32767)})
	}
	// A full zone of long names and long data is fetched, a record in each message but for what goes beside it.
	list := []impl.RR{soaTimed(inEx(), 2, 10, 4, 60), rrOf(inEx(), impl.TypeNS, nm("ns"))}
	for n := range 498 {
		list = append(list, rrOf(nm(append([]string{itoa(n)}, append(times(110, "t"), "example")...)...), 65280, strings.Repeat("x", 60000)+itoa(n)))
	}
	full := mustBuild(t, list, inEx())
	msgs, code := impl.SplitTransfer(7, askSome(inEx()), wholeOf(full), 65535)
	if code != impl.OK || len(msgs) < 498 {
		t.Fatalf("SplitTransfer = %d messages, %d", len(msgs), code)
	}
	checkHear(t, "a full zone", waiting(z, 2, 7, 100, 160), msgs, 103, waiting(full, 0, 7, 113, 163), "", impl.OK)
	checkTick(t, "a full zone", waiting(full, 2, 7, 100, 160), 100, waiting(full, 1, 8, 104, 160), asksSOA(8, inEx()), impl.OK)
}

// P1: nothing is written into an argument, nor behind it; an answer is new memory, and no two of its lists share any.
func TestP1SecondaryMemory(t *testing.T) {
	r := rand.New(rand.NewSource(182))
	fetched := 0
	for n := range 600 {
		was, primary := anySecondary(t, r, apexes()[n%3])
		now := max(0, min(lastTime, was.Next)) * int64(n%2)
		heard := heardOf(t, r, was, primary)
		text := sentTo(t, r, impl.Server{Zone: was.Zone}, 1000)
		s := cloneSecondary(was)
		for i, set := range s.Zone.Sets {
			s.Zone.Sets[i].Data = append(set.Data, "left")[:len(set.Data)]
		}
		s.Zone.Sets = append(s.Zone.Sets, impl.Set{Owner: "left"})[:len(s.Zone.Sets)]
		msgs := append(slices.Clone(heard), []byte("left"))[:len(heard)]
		for i, b := range msgs {
			msgs[i] = append(slices.Clone(b), "left"...)[:len(b)]
		}
		b := append([]byte(text), "left"...)[:len(text)]
		begun, _ := impl.StartSecondary(s.Zone, now)
		ticked, asks, _ := impl.TickSecondary(s, now)
		next, sent, _ := impl.HearSecondary(s, msgs, now)
		reply, _ := impl.AskSecondary(s, b, n%2 == 0, now)
		isWhole := func(b, was []byte) bool { return string(b[:len(b)+4]) == string(was)+"left" }
		if !sameSecondary(s, was) || !slices.EqualFunc(msgs, heard, isWhole) || !isWhole(b, []byte(text)) {
			t.Fatalf("a call wrote into an argument")
		}
		if s.Zone.Sets[:len(s.Zone.Sets)+1][len(s.Zone.Sets)].Owner != "left" || string(msgs[:len(msgs)+1][len(msgs)]) != "left" {
			t.Fatalf("a call wrote behind an argument")
		}
		for _, set := range s.Zone.Sets {
			if set.Data[:len(set.Data)+1][len(set.Data)] != "left" {
				t.Fatalf("a call wrote behind a set's data")
			}
		}
		if len(heard) > 0 && !sameZone(next.Zone, was.Zone) {
			fetched++
		}
		wantBegun, wantTicked, wantNext, wantReply := cloneSecondary(begun), cloneSecondary(ticked), cloneSecondary(next), cloneReply(reply)
		wantAsks, wantSent := string(asks), string(sent)
		for _, set := range s.Zone.Sets {
			clear(set.Data)
		}
		clear(s.Zone.Sets)
		for _, b := range msgs {
			clear(b)
		}
		clear(b)
		isSame := func() bool {
			return sameSecondary(begun, wantBegun) && sameSecondary(ticked, wantTicked) && sameSecondary(next, wantNext) && sameReply(reply, wantReply) &&
				string(asks) == wantAsks && string(sent) == wantSent
		}
		if !isSame() {
			t.Fatalf("an answer shares memory with an argument")
		}
		for _, b := range append([][]byte{asks, sent}, reply.Messages...) {
			_ = append(b, "more"...)
		}
		if !isSame() {
			t.Fatalf("two answers share memory")
		}
		for _, z := range []impl.Zone{begun.Zone, ticked.Zone, next.Zone} {
			checkApartSets(t, z)
		}
	}
	if fetched < 30 {
		t.Errorf("only %d zones were fetched", fetched)
	}
}

// P1: what is answered hangs on nothing but what was given: the same calls again, and after others.
func TestP1SecondaryAgain(t *testing.T) {
	r := rand.New(rand.NewSource(183))
	for n := range 300 {
		s, primary := anySecondary(t, r, apexes()[n%3])
		msgs := heardOf(t, r, s, primary)
		first, sent, code := impl.HearSecondary(s, msgs, 1000)
		impl.TickSecondary(s, 2000)
		impl.StartSecondary(primary.Zone, 5)
		checkHear(t, "again", s, msgs, 1000, first, string(sent), code)
	}
}
