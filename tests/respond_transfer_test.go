package tests

import (
	"fmt"
	"slices"
	"strings"
	"testing"

	"loop.example/s01858/impl"
)

// asksFrom is a message that asks for the changes of a zone since a serial.
func asksFrom(apex string, list ...impl.RR) impl.Message {
	m := asking(apex, impl.TypeIXFR, 1)
	m.Authority = list
	return m
}

// textOf is some messages' bytes.
func textOf(list ...impl.Message) [][]byte {
	var out [][]byte
	for _, m := range list {
		out = append(out, []byte(asked(m)))
	}
	return out
}

// checkHanded holds the messages of a transfer, with keys and without; no record of TypeOPT stands in them.
func checkHanded(t *testing.T, tell string, s impl.Server, m impl.Message, list ...impl.RR) {
	t.Helper()
	key := keyOf("Key", "secret")
	keyed := s
	keyed.Keys = []impl.Key{keyOf("a", "x"), key}
	q := m.Questions
	for _, ask := range []impl.Message{m, withExtra(m, optOf(512, 32768)), withExtra(m, optOf(65535, 0, optionOf(1, "x")))} {
		want := impl.Reply{Case: 8, Messages: textOf(sent(0x1234, q, list...))}
		checkRespond(t, tell, s, asked(ask), true, 1000, want, s, impl.OK)
		sum := tsigOf(asked(ask), key, 1000, 300, "").sum
		want.Messages[0] = []byte(signedBy(string(want.Messages[0]), key, 1000, sum))
		checkRespond(t, tell+", signed", keyed, signedBy(asked(ask), key, 1000, ""), true, 1000, want, keyed, impl.OK)
	}
}

func TestRespondTransfer(t *testing.T) {
	zones, history := fourZones(t)
	s := impl.Server{Zone: zones[3], History: history}
	soa := func(serial int64) impl.RR { return records(t, soaText(serial))[0] }
	all := records(t, soaText(11)+"@ NS ns\na A 192.0.2.2\na A 192.0.2.3\nb TXT x\n"+soaText(11))
	some := records(t, soaText(11)+soaText(8)+"a A 192.0.2.1\n"+soaText(10)+"a A 192.0.2.2\na A 192.0.2.3\n"+soaText(10)+soaText(11)+soaText(11))
	checkHanded(t, "all", s, asking(inEx(), impl.TypeAXFR, 1), all...)
	// An authority list is not looked at where all is asked for.
	m := asking(inEx(), impl.TypeAXFR, 1)
	m.Authority = []impl.RR{soa(8), rrOf(root, 99, "x")}
	checkHanded(t, "all, whatever stands beside", s, m, all...)
	checkHanded(t, "since 8", s, asksFrom(inEx(), soa(8)), some...)
	checkHanded(t, "since 11", s, asksFrom(inEx(), soa(11)), soa(11))
	checkHanded(t, "since 12", s, asksFrom(inEx(), soa(12)), soa(11))
	checkHanded(t, "since 9", s, asksFrom(inEx(), soa(9)), all...)
	checkHanded(t, "since 4294967295", s, asksFrom(inEx(), soa(4294967295)), all...)
	s.History = nil
	checkHanded(t, "no history", s, asksFrom(inEx(), soa(8)), all...)
	s.History = history
	// The SOA that is asked from may be another one than the zone had: but for its owner's name only its serial counts.
	other := soaOf(nm("EXAMPLE"), 8)
	other.Class, other.TTL = 3, 0
	checkHanded(t, "an SOA of its own", s, asksFrom(inEx(), other), some...)
	answered := asksFrom(inEx(), soa(8))
	answered.Answer, answered.Extra = all, all[1:3]
	checkHanded(t, "records elsewhere", s, answered, some...)
}

// What is not handed on, and the first reason for it.
func TestRespondNoTransfer(t *testing.T) {
	zones, history := fourZones(t)
	key := keyOf("key", "secret")
	s := impl.Server{Zone: zones[3], History: history}
	keyed := s
	keyed.Keys = []impl.Key{key}
	soa := soaIn(zones[1])
	ill := soa
	ill.Data = ""
	says := func(tell string, ask impl.Message, tcp bool, code int64) {
		t.Helper()
		for _, opt := range [][2][]impl.RR{{nil, nil}, {{optOf(1232, 32768)}, {optOf(4096, 32768)}}} {
			ask, reply := withExtra(ask, opt[0]...), withExtra(replyTo(ask, code), opt[1]...)
			checkRespond(t, tell, s, asked(ask), tcp, 1000, oneReply(8, reply), s, impl.OK)
			sum := tsigOf(asked(ask), key, 1000, 300, "").sum
			want := impl.Reply{Case: 8, Messages: [][]byte{[]byte(signedBy(asked(reply), key, 1000, sum))}}
			checkRespond(t, tell+", signed", keyed, signedBy(asked(ask), key, 1000, ""), tcp, 1000, want, keyed, impl.OK)
			reply.Head.Code = impl.Refused
			checkRespond(t, tell+", not signed", keyed, asked(ask), tcp, 1000, oneReply(8, reply), keyed, impl.OK)
		}
	}
	for tell, list := range map[string][]impl.RR{
		"no SOA":              nil,
		"two SOAs":            {soa, soa},
		"another behind":      {soa, rrOf(inEx(), impl.TypeA, "abcd")},
		"another ahead":       {rrOf(inEx(), impl.TypeA, "abcd"), soa},
		"an address":          {rrOf(inEx(), impl.TypeA, "abcd")},
		"an SOA without data": {ill},
		"data of another":     {rrOf(inEx(), 65280, soa.Data)},
		"of another owner":    {soaOf(inEx("a"), 8)},
		"of the root":         {soaOf(root, 8)},
	} {
		says(tell, asksFrom(inEx(), list...), true, impl.FormErr)
		says(tell+", a datagram", asksFrom(inEx(), list...), false, impl.Refused)
		says(tell+", other letters", asksFrom(nm("Example"), list...), true, impl.NotAuth)
		says(tell+", below", asksFrom(inEx("a"), list...), true, impl.NotAuth)
	}
	says("all, a datagram", asking(inEx(), impl.TypeAXFR, 1), false, impl.Refused)
	says("all, of a name below", asking(inEx("a"), impl.TypeAXFR, 1), true, impl.NotAuth)
	says("all, of a name that is not there", asking(inEx("none", "none"), impl.TypeAXFR, 1), true, impl.NotAuth)
	says("all, in other letters", asking(nm("EXAMPLE"), impl.TypeAXFR, 1), true, impl.NotAuth)
	says("some, a datagram", asksFrom(inEx(), soa), false, impl.Refused)
	says("some, in other letters", asksFrom(nm("eXample"), soa), true, impl.NotAuth)
	says("a datagram, below", asking(inEx("a"), impl.TypeAXFR, 1), false, impl.Refused)
}

// longTexts is records of one owner, each of so many bytes in a message where the owner is a pointer.
func longTexts(owner string, n, size int) []impl.RR {
	var out []impl.RR
	for i := range n {
		text := itoa(1000 + i)
		out = append(out, rrOf(owner, 65280, text+strings.Repeat("x", size-12-len(text))))
	}
	return out
}

// In several messages: each has as many records as fit, with their signature, into 4096 bytes.
func TestRespondTransferParts(t *testing.T) {
	for _, label := range []string{"k", strings.Repeat("k", 63)} {
		key := impl.Key{Name: nm(label), Secret: "secret"}
		for _, size := range []int{100, 500, 1000, 1900, 2000, 2048, 3900, 4000, 4072, 4073, 4085, 4086} {
			list := begun(root, longTexts(root, 20, size)...)
			s := impl.Server{Zone: mustBuild(t, list, root)}
			keyed := s
			keyed.Keys = []impl.Key{key}
			ask := asking(root, impl.TypeAXFR, 1)
			checkSecond(t, fmt.Sprint(size), s, asked(ask), true, 1000)
			checkSecond(t, fmt.Sprint(size, " signed"), keyed, signedBy(asked(ask), key, 1000, ""), true, 1000)
			for i, s := range []impl.Server{s, keyed} {
				b := []byte([]string{asked(ask), signedBy(asked(ask), key, 1000, "")}[i])
				reply, _, _ := impl.Respond(s, b, true, 1000)
				for _, msg := range reply.Messages {
					if len(msg) > 4096 {
						t.Errorf("a message of %d bytes", len(msg))
					}
				}
			}
		}
	}
}

// A record that fits into no message, and more records than there may be.
func TestRespondTransferFails(t *testing.T) {
	key := keyOf("key", "secret")
	with := func(size int) impl.Server {
		return impl.Server{Zone: mustBuild(t, begun(root, rrOf(nm("a"), 65280, strings.Repeat("x", size))), root)}
	}
	ask := asking(root, impl.TypeAXFR, 1)
	// 12 bytes of a head, 13 of a record without its data.
	const most = 4096 - 12 - 13
	room := len(key.Name) + 71
	for _, opt := range [][2][]impl.RR{{nil, nil}, {{optOf(1232, 32768)}, {optOf(4096, 32768)}}} {
		ask, reply := withExtra(ask, opt[0]...), withExtra(replyTo(ask, impl.ServFail), opt[1]...)
		for _, c := range []struct {
			size   int
			signed bool
			fits   bool
		}{
			{most, false, true}, {most + 1, false, false}, {60000, false, false},
			{most - room, true, true}, {most - room + 1, true, false}, {most, true, false},
		} {
			s, b, want := with(c.size), asked(ask), oneReply(8, reply)
			if c.signed {
				s.Keys, b = []impl.Key{key}, signedBy(asked(ask), key, 1000, "")
				want.Messages[0] = []byte(signedBy(asked(reply), key, 1000, tsigOf(asked(ask), key, 1000, 300, "").sum))
			}
			if !c.fits {
				checkRespond(t, fmt.Sprint(c), s, b, true, 1000, want, s, impl.OK)
				continue
			}
			checkSecond(t, fmt.Sprint(c), s, b, true, 1000)
			if got, _, _ := impl.Respond(s, []byte(b), true, 1000); len(got.Messages) < 2 {
				t.Errorf("%v: %s", c, tellReply(got))
			}
		}
	}
}

// Changes of more than 3000 records in all are not handed on; just so many are.
func TestRespondTransferMany(t *testing.T) {
	host := mustBuild(t, []impl.RR{soaOf(inEx(), 8), rrOf(inEx(), impl.TypeNS, nm("ns"))}, inEx())
	fill := slices.Repeat([]impl.RR{rrOf(inEx("f"), impl.TypeA, "abcd")}, 500)
	var history []impl.Change
	for serial := range int64(7) {
		history = append(history, impl.Change{Old: soaOf(inEx(), serial+1), New: soaOf(inEx(), serial+2), Del: fill})
	}
	// Two SOAs around all, two of each change, and what they drop.
	history[0].Del, history[6].Del = fill[:484], fill[:0]
	history[1].Add = fill[:0]
	s := impl.Server{Zone: host, History: history}
	ask := asksFrom(inEx(), soaOf(inEx(), 1))
	reply, _, _ := impl.Respond(s, []byte(asked(ask)), true, 1000)
	count := 0
	for _, b := range reply.Messages {
		m, _ := impl.Decode(b)
		count += len(m.Answer)
	}
	if count != 3000 {
		t.Errorf("%d records were handed on", count)
	}
	checkSecond(t, "3000", s, asked(ask), true, 1000)
	history[3].Add = fill[:1]
	checkRespond(t, "3001", s, asked(ask), true, 1000, oneReply(8, replyTo(ask, impl.ServFail)), s, impl.OK)
	ask = asksFrom(inEx(), soaOf(inEx(), 2))
	checkSecond(t, "from the second on", s, asked(ask), true, 1000)
}
