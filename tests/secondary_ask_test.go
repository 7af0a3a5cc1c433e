package tests

import (
	"fmt"
	"math/rand"
	"testing"

	"loop.example/s01858/impl"
)

// askTimes are times ahead of Until, at it and behind it.
func askTimes(until int64) (ahead, behind []int64) {
	return []int64{0, 1, until - 2, until - 1}, []int64{until, until + 1, until + 1000, lastTime - 1, lastTime}
}

// checkAskAll holds a reply as a datagram and over a stream, whatever is waited for, ahead of Until and from it on.
func checkAskAll(t *testing.T, tell string, z impl.Zone, b string, ahead, behind impl.Reply) {
	t.Helper()
	before, after := askTimes(160)
	for waits := range int64(3) {
		s := waiting(z, waits, 7, 100, 160)
		for _, tcp := range []bool{false, true} {
			for _, now := range before {
				checkAsk(t, tell+", ahead", s, b, tcp, now, ahead, impl.OK)
			}
			for _, now := range after {
				checkAsk(t, tell+", behind", s, b, tcp, now, behind, impl.OK)
			}
		}
	}
}

// Queries are answered from the zone ahead of Until, and from it on by ServFail with the question alone.
func TestAskSecondaryQuery(t *testing.T) {
	z := docZone(t)
	for _, c := range []struct {
		tell  string
		ask   impl.Message
		reply impl.Message
	}{
		{"an address", asking(inEx("web"), impl.TypeA, 1), saying(impl.Message{}, records(t, "web A 192.0.2.80"), nil, nil)},
		{"the SOA", asking(inEx(), impl.TypeSOA, 1), saying(impl.Message{}, []impl.RR{soaIn(z)}, nil, nil)},
		{"other letters", asking(nm("WEB", "Example"), impl.TypeA, 1), saying(impl.Message{}, records(t, "web A 192.0.2.80"), nil, nil)},
	} {
		for _, extra := range [][]impl.RR{nil, {optOf(1232, 32768, optionOf(3, "x"))}} {
			ask := withExtra(c.ask, extra...)
			reply := replyTo(ask, impl.NoError)
			reply.Head.AA, reply.Answer = true, c.reply.Answer
			if extra != nil {
				reply.Extra = []impl.RR{optOf(4096, 32768)}
			}
			checkAskAll(t, c.tell, z, asked(ask), oneReply(10, reply), oneReply(10, replyTo(ask, impl.ServFail)))
		}
	}
	// Byte by byte, as the document has it.
	fails := docQuery[:2] + "\x81\x02" + docQuery[4:]
	checkAskAll(t, "the document's", z, docQuery,
		impl.Reply{Case: 10, Messages: one(docReply)}, impl.Reply{Case: 10, Messages: one(fails)})
	without := docQuery[:2] + "\x00\x00" + docQuery[4:]
	fails = docQuery[:2] + "\x80\x02" + docQuery[4:]
	reply := docReply[:2] + "\x84\x00" + docReply[4:]
	checkAskAll(t, "without RD", z, without, impl.Reply{Case: 10, Messages: one(reply)}, impl.Reply{Case: 10, Messages: one(fails)})
}

// From Until on every kind of query is answered by ServFail: those that would be refused, transfers, and signed ones,
// too.
func TestAskSecondaryFails(t *testing.T) {
	z := docZone(t)
	key := keyOf("key", "secret")
	_, behind := askTimes(160)
	for _, ask := range []impl.Message{
		asking(inEx("web"), impl.TypeA, 1), asking(inEx("none"), impl.TypeA, 1), asking(inEx("h", "sub"), impl.TypeA, 1), asking(nm("com"), impl.TypeA, 1),
		asking(inEx("web"), impl.TypeA, 3), asking(inEx("web"), 0, 1), asking(inEx("web"), 255, 1), asking(inEx(), impl.TypeAXFR, 1), asksFrom(inEx(), soaIn(z)),
		asking(inEx(), impl.TypeIXFR, 1), asking(root, impl.TypeSOA, 1), withExtra(asking(inEx("web"), impl.TypeA, 1), optOf(512, 32768)),
	} {
		for n := range 16 {
			ask.Head = impl.Head{ID: int64(n * 4369), AA: n&1 > 0, TC: n&2 > 0, RD: n&4 > 0, RA: n&8 > 0, Z: n&1 > 0, AD: n&2 > 0, CD: n&4 > 0, Code: int64(n)}
			want := oneReply(10, replyTo(ask, impl.ServFail))
			for _, b := range []string{asked(ask), signedBy(asked(ask), key, 1000, "")} {
				for _, now := range behind {
					for _, tcp := range []bool{false, true} {
						checkAsk(t, "behind Until", waiting(z, int64(n%3), 7, 100, 160), b, tcp, now, want, impl.OK)
					}
				}
			}
		}
	}
}

// Changes are refused at any time, with the question alone, whoever asks for them and whatever they are.
func TestAskSecondaryUpdate(t *testing.T) {
	z := docZone(t)
	key := keyOf("key", "secret")
	for _, ask := range []impl.Message{
		updateMessage(inEx(), nil, asks(t, "+new A 192.0.2.1")), updateMessage(inEx(), nil, nil), updateMessage(nm("com"), nil, nil),
		updateMessage(inEx(), records(t, "none A 192.0.2.1"), nil), withOp(asking(inEx("web"), impl.TypeA, 3), 5),
		withExtra(updateMessage(inEx(), nil, asks(t, "+new A 192.0.2.1")), optOf(512, 32768, optionOf(1, "x"))),
	} {
		for n := range 4 {
			ask.Head = impl.Head{ID: int64(n * 21845), Op: 5, AA: true, RD: n&1 > 0, CD: n&2 > 0, Code: int64(n)}
			want := oneReply(6, replyTo(ask, impl.Refused))
			checkAskAll(t, "a change", z, asked(ask), want, want)
			checkAskAll(t, "a change, signed", z, signedBy(asked(ask), key, 150, ""), want, want)
		}
	}
	b := "\x12\x34\x29\x00\x00\x01\x00\x00\x00\x00\x00\x00\x07EXAMPLE\x00\x00\x06\x00\x01"
	want := impl.Reply{Case: 6, Messages: one("\x12\x34\xa9\x05" + b[4:])}
	checkAskAll(t, "byte by byte", z, b, want, want)
}

// All that is neither a change nor a query is answered as by Respond, ahead of Until and behind it.
func TestAskSecondaryElse(t *testing.T) {
	z := docZone(t)
	query := asking(inEx("web"), impl.TypeA, 1)
	same := func(tell, b string, want impl.Reply) {
		t.Helper()
		checkAskAll(t, tell, z, b, want, want)
	}
	for tell, b := range map[string]string{"nothing": "", "11 bytes": asked(query)[:11], "QR": "\x12\x34\x80\x00" + asked(query)[4:], "an answer": docReply, "a change's answer": thanks(7, inEx())} {
		same(tell, b, impl.Reply{Case: 1})
	}
	two := query
	two.Questions = append(two.Questions, query.Questions...)
	ill := impl.Reply{Case: 2, Messages: one("\x12\x34\x81\x01\x00\x00\x00\x00\x00\x00\x00\x00")}
	for tell, b := range map[string]string{
		"two questions": asked(two), "a byte behind": asked(query) + "x", "12 bytes": asked(query)[:12],
		"two OPT": asked(withExtra(query, optOf(512, 0), optOf(512, 0))), "no signature": asked(withExtra(query, rrOf(nm("key"), impl.TypeTSIG, "x"))),
	} {
		same(tell, b, ill)
	}
	illChange := impl.Reply{Case: 2, Messages: one("\x12\x34\xa9\x01\x00\x00\x00\x00\x00\x00\x00\x00")}
	same("an ill change", "\x12\x34\x29\x00"+asked(two)[4:], illChange)
	for _, op := range []int64{1, 2, 3, 4, 6, 15} {
		ask := withOp(query, op)
		same(fmt.Sprint("operation ", op), asked(ask), oneReply(3, replyTo(ask, impl.NotImp)))
		same(fmt.Sprint("operation ", op), asked(withExtra(ask, optOf(512, 32768))), oneReply(3, withExtra(replyTo(ask, impl.NotImp), optOf(4096, 32768))))
	}
	same("told of a change", told(7, inEx()), impl.Reply{Case: 3, Messages: one("\x00\x07\xa0\x04" + told(7, inEx())[4:])})
	for _, op := range []int64{0, 5} {
		ask := withOp(query, op)
		same("another version", asked(withExtra(ask, optOf(512, 65536))), oneReply(4, withExtra(replyTo(ask, 0), optOf(4096, 16777216))))
	}
}

// Ahead of Until the reply is that of a server with the zone, no history and no keys.
func TestAskSecondaryServer(t *testing.T) {
	z := docZone(t)
	s := waiting(z, 1, 7, 100, 160)
	for tell, ask := range map[string]impl.Message{
		"not there":      asking(inEx("none"), impl.TypeA, 1),
		"below a cut":    asking(inEx("h", "sub"), impl.TypeA, 1),
		"elsewhere":      asking(nm("com"), impl.TypeA, 1),
		"another class":  asking(inEx("web"), impl.TypeA, 3),
		"a meta type":    asking(inEx("web"), 0, 1),
		"all":            asking(inEx(), impl.TypeAXFR, 1),
		"since its own":  asksFrom(inEx(), soaIn(z)),
		"since 6":        asksFrom(inEx(), soaOf(inEx(), 6)),
		"since nothing":  asking(inEx(), impl.TypeIXFR, 1),
		"with proofs":    withExtra(asking(inEx("none"), impl.TypeA, 1), optOf(512, 32768)),
		"other letters":  asking(nm("EXAMPLE"), impl.TypeAXFR, 1),
		"all of a name":  asking(inEx(), impl.TypeANY, 1),
		"too long a one": withExtra(asking(inEx(), impl.TypeANY, 1), optOf(65535, 0)),
	} {
		for _, tcp := range []bool{false, true} {
			for _, b := range []string{asked(ask), signedBy(asked(ask), keyOf("key", "secret"), 159, "")} {
				want, _, code := respondOf(impl.Server{Zone: z}, b, tcp, 159)
				checkAsk(t, tell, s, b, tcp, 159, want, code)
				got, _, _ := impl.Respond(impl.Server{Zone: z}, []byte(b), tcp, 159)
				checkAsk(t, tell+", as Respond", s, b, tcp, 159, got, impl.OK)
			}
		}
	}
	// The time counts for signatures not at all: nobody's key is known.
	ask := asking(inEx("web"), impl.TypeA, 1)
	signed := signedBy(asked(ask), keyOf("key", "secret"), 159, "")
	checkAsk(t, "signed", s, signed, false, 159, oneReply(5, replyTo(ask, impl.NotAuth)), impl.OK)
	// A datagram is made to fit, a stream not.
	list := begun(inEx())
	for n := range 60 {
		list = append(list, rrOf(inEx("a"), impl.TypeA, be(int64(n), 4)))
	}
	great := mustBuild(t, list, inEx())
	ask = asking(inEx("a"), impl.TypeA, 1)
	cut := replyTo(ask, 0)
	cut.Head.AA, cut.Head.TC = true, true
	checkAsk(t, "cut", waiting(great, 0, 0, 0, 1), asked(ask), false, 0, oneReply(10, cut), impl.OK)
	whole := saying(replyTo(ask, 0), list[2:], nil, nil)
	checkAsk(t, "whole", waiting(great, 0, 0, 0, 1), asked(ask), true, 0, oneReply(10, whole), impl.OK)
}

// Until at its ends, and times at theirs; Next does not count.
func TestAskSecondaryUntil(t *testing.T) {
	z := docZone(t)
	ask := asking(inEx("web"), impl.TypeA, 1)
	good := oneReply(10, saying(replyTo(ask, 0), records(t, "web A 192.0.2.80"), nil, nil))
	fail := oneReply(10, replyTo(ask, impl.ServFail))
	for _, next := range []int64{0, 160, lastTime, lastAhead} {
		for _, c := range []struct {
			until, now int64
			want       impl.Reply
		}{
			{0, 0, fail}, {0, 1, fail}, {0, lastTime, fail}, {1, 0, good}, {1, 1, fail}, {160, 159, good}, {160, 160, fail}, {160, 161, fail},
			{lastTime, lastTime - 1, good}, {lastTime, lastTime, fail}, {lastTime + 1, lastTime, good}, {lastAhead, lastTime, good}, {lastAhead, 0, good},
		} {
			checkAsk(t, fmt.Sprint("until ", c.until), waiting(z, 0, 7, next, c.until), asked(ask), false, c.now, c.want, impl.OK)
		}
	}
}

// Arbitrary secondaries and what comes to them, held against the second reading of the chapter.
func TestSecondaryAny(t *testing.T) {
	r := rand.New(rand.NewSource(180))
	met := map[string]int{}
	for n := range 4000 {
		s, primary := anySecondary(t, r, apexes()[n%3])
		now := someTime(r)
		switch r.Intn(20) {
		case 0:
			bendZone(r, &s.Zone)
		case 1:
			now = oddTimes()[r.Intn(len(oddTimes()))]
		case 2:
			s.Next, s.Until = oddTimes()[r.Intn(len(oddTimes()))], oddTimes()[r.Intn(len(oddTimes()))]
		}
		want, code := startOf(s.Zone, now)
		checkStarted(t, "arbitrary", s.Zone, now, want, code)
		next, sent, code := tickOf(s, now)
		checkTick(t, "arbitrary", s, now, next, sent, code)
		met[fmt.Sprintf("tick %t %d", sent != "", code)]++
		if impl.CheckZone(s.Zone) == impl.OK {
			msgs := heardOf(t, r, s, primary)
			if r.Intn(10) == 0 && len(msgs) > 0 {
				msgs[r.Intn(len(msgs))] = bent(r, msgs[r.Intn(len(msgs))])
			}
			next, sent, code = hearOf(s, msgs, now)
			checkHear(t, "arbitrary", s, msgs, now, next, sent, code)
			met[fmt.Sprintf("heard %d to %d, zone %t, sent %t, %d", s.Asked, next.Asked, sameZone(s.Zone, next.Zone), sent != "", code)]++
			b := sentTo(t, r, impl.Server{Zone: s.Zone}, max(0, min(lastTime, now)))
			reply, code := askOf(s, b, n%2 == 0, now)
			checkAsk(t, "arbitrary", s, b, n%2 == 0, now, reply, code)
			met[fmt.Sprintf("asked %d", reply.Case)]++
		}
	}
	for tell, least := range map[string]int{
		"tick true 0": 500, "tick false 0": 500, "heard 0 to 0, zone true, sent true, 0": 300, "heard 0 to 0, zone true, sent false, 0": 100,
		"heard 1 to 1, zone true, sent false, 0": 100, "heard 1 to 2, zone true, sent true, 0": 100, "heard 1 to 0, zone true, sent false, 0": 200,
		"heard 2 to 0, zone false, sent false, 0": 100, "heard 2 to 0, zone true, sent false, 0": 100, "heard 2 to 2, zone true, sent false, 0": 200,
		"asked 2": 20, "asked 6": 200, "asked 10": 1000, "asked 8": 5, "asked 3": 5, "asked 4": 5,
	} {
		if met[tell] < least {
			t.Errorf("met are %v, of %q too few", met, tell)
		}
	}
}
