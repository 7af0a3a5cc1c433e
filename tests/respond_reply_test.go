package tests

import (
	"fmt"
	"math"
	"slices"
	"strings"
	"testing"

	"loop.example/s01858/impl"
)

// replyCase is a message and the reply to it, as they are without a record of TypeOPT and without a signature.
type replyCase struct {
	tell   string
	ask    impl.Message
	number int64
	reply  impl.Message
}

// checkWays holds the reply to a message in all its forms: with a record of TypeOPT or none, signed or not, as a datagram
// and over a stream. The reply is short, and the same in all but its last records.
func checkWays(t *testing.T, z impl.Zone, c replyCase) {
	t.Helper()
	key := impl.Key{Name: nm("Key", "zone"), Secret: "secret"}
	bare, keyed := impl.Server{Zone: z}, impl.Server{Zone: z, Keys: []impl.Key{keyOf("other", "x"), key}}
	for _, tcp := range []bool{false, true} {
		for _, opt := range [][2][]impl.RR{
			{nil, nil},
			{{optOf(512, 0)}, {optOf(4096, 0)}},
			{{optOf(65535, 0x7f0000ff, optionOf(10, "abc"))}, {optOf(4096, 0)}},
		} {
			ask, reply := withExtra(c.ask, opt[0]...), withExtra(c.reply, opt[1]...)
			checkRespond(t, c.tell, bare, asked(ask), tcp, 1000, oneReply(c.number, reply), bare, impl.OK)
			if c.number != impl.CaseUpdate {
				checkRespond(t, c.tell+", keys", keyed, asked(ask), tcp, 1000, oneReply(c.number, reply), keyed, impl.OK)
			}
			b := signedBy(asked(ask), key, 900, "")
			sum := tsigOf(asked(ask), key, 900, 300, "").sum
			want := impl.Reply{Case: c.number, Messages: [][]byte{[]byte(signedBy(asked(reply), key, 1000, sum))}}
			checkRespond(t, c.tell+", signed", keyed, b, tcp, 1000, want, keyed, impl.OK)
		}
	}
}

// The document's example, byte for byte.
func TestRespondExample(t *testing.T) {
	s := impl.Server{Zone: docZone(t)}
	query := "\x12\x34\x01\x00\x00\x01\x00\x00\x00\x00\x00\x00\x03www\x07example\x00\x00\x01\x00\x01"
	reply := "\x12\x34\x85\x00\x00\x01\x00\x02\x00\x00\x00\x00\x03www\x07example\x00\x00\x01\x00\x01" +
		"\xc0\x0c\x00\x05\x00\x01\x00\x00\x0e\x10\x00\x06\x03web\xc0\x10" + "\xc0\x29\x00\x01\x00\x01\x00\x00\x0e\x10\x00\x04\xc0\x00\x02\x50"
	of := func(number int64, b string) impl.Reply {
		return impl.Reply{Case: number, Messages: [][]byte{[]byte(b)}}
	}
	for _, tcp := range []bool{false, true} {
		checkRespond(t, "the example", s, query, tcp, 0, of(10, reply), s, impl.OK)
		checkRespond(t, "with OPT", s, query[:11]+"\x01"+query[12:]+"\x00\x00\x29\x10\x00\x00\x00\x80\x00\x00\x00", tcp, 0,
			of(10, reply[:11]+"\x01"+reply[12:]+"\x00\x00\x29\x10\x00\x00\x00\x80\x00\x00\x00"), s, impl.OK)
		checkRespond(t, "a byte behind", s, query+"x", tcp, 0, of(2, "\x12\x34\x81\x01\x00\x00\x00\x00\x00\x00\x00\x00"), s, impl.OK)
		checkRespond(t, "another operation", s, "\x12\x34\x17\xff"+query[4:], tcp, 0, of(3, "\x12\x34\x91\x04"+query[4:]), s, impl.OK)
		checkRespond(t, "another version", s, query[:11]+"\x01"+query[12:]+"\x00\x00\x29\x02\x00\x00\x01\x80\x00\x00\x00", tcp, 0,
			of(4, "\x12\x34\x81\x00"+query[4:11]+"\x01"+query[12:]+"\x00\x00\x29\x10\x00\x01\x00\x80\x00\x00\x00"), s, impl.OK)
		checkRespond(t, "no example", s, query[:12]+"\x03www\x07exampla\x00\x00\x01\x00\x01", tcp, 0,
			of(7, "\x12\x34\x81\x05\x00\x01\x00\x00\x00\x00\x00\x00\x03www\x07exampla\x00\x00\x01\x00\x01"), s, impl.OK)
	}
	checkRespond(t, "11 bytes", s, query[:11], false, 0, impl.Reply{Case: 1}, s, impl.OK)
	checkRespond(t, "a reply", s, reply, false, 0, impl.Reply{Case: 1}, s, impl.OK)
}

// The table of the document's examples, and more of its kind.
func TestRespondAnswers(t *testing.T) {
	z := docZone(t)
	soa := records(t, "@ 300 SOA ns1 admin 7 7200 900 86400 300")
	for _, c := range []struct {
		name, qtype           string
		code                  int64
		aa                    bool
		answer, authority, ex string
	}{
		{"www", "A", 0, true, "www CNAME web\nweb A 192.0.2.80", "", ""},
		{"WWW.Example.", "A", 0, true, "www CNAME web\nweb A 192.0.2.80", "", ""},
		{"web", "MX", 0, true, "", "soa", ""},
		{"web", "A", 0, true, "web A 192.0.2.80", "", ""},
		{"none", "A", 3, true, "", "soa", ""},
		{"ent", "A", 0, true, "", "soa", ""},
		{"q.w", "TXT", 0, true, "q.w TXT wild", "", ""},
		{"q.w", "A", 0, true, "", "soa", ""},
		{"h.sub", "A", 0, false, "", "sub NS ns.sub", "ns.sub A 192.0.2.53"},
		{"sub", "NS", 0, false, "", "sub NS ns.sub", "ns.sub A 192.0.2.53"},
		{"a.old", "A", 3, true, "old DNAME new\na.old CNAME a.new", "soa", ""},
		{"@", "NS", 0, true, "@ NS ns1", "", "ns1 A 192.0.2.1"},
		{"@", "SOA", 0, true, "@ SOA ns1 admin 7 7200 900 86400 300", "", ""},
		{"@", "ANY", 0, true, "@ NS ns1\n@ SOA ns1 admin 7 7200 900 86400 300", "", "ns1 A 192.0.2.1"},
		{"web", "TYPE248", 0, true, "", "soa", ""},
		{"web", "TYPE256", 0, true, "", "soa", ""},
		{"web", "TYPE65535", 0, true, "", "soa", ""},
	} {
		ask := asking(named(t, c.name), typed(t, c.qtype), 1)
		reply := saying(replyTo(ask, c.code), records(t, c.answer), nil, records(t, c.ex))
		reply.Head.AA, reply.Authority = c.aa, soa
		if c.authority != "soa" {
			reply.Authority = records(t, c.authority)
		}
		if strings.HasPrefix(c.name, "WWW") {
			reply.Answer[0].Owner = "\x03www\x07example\x00"
		}
		checkWays(t, z, replyCase{c.name + " " + c.qtype, ask, impl.CaseAnswer, reply})
	}
}

// A name that a DNAME makes too long.
func TestRespondLong(t *testing.T) {
	z := zoneAnd(t, "old DNAME "+strings.Repeat("n", 60)+"."+strings.Repeat("n", 60)+"."+strings.Repeat("n", 60)+".new\n")
	ask := asking(named(t, strings.Repeat("a", 60)+".old"), impl.TypeA, 1)
	reply := saying(replyTo(ask, impl.YXDomain), recordsAt(z, inEx("old"), impl.TypeDNAME), nil, nil)
	checkWays(t, z, replyCase{"too long", ask, impl.CaseAnswer, reply})
}

// The cases that say but a code.
func TestRespondCodes(t *testing.T) {
	z := docZone(t)
	query := asking(inEx("web"), impl.TypeA, 1)
	says := func(tell string, ask impl.Message, number, code int64) {
		t.Helper()
		checkWays(t, z, replyCase{tell, ask, number, replyTo(ask, code)})
	}
	for _, op := range []int64{1, 2, 3, 4, 6, 7, 14, 15} {
		says("another operation", withOp(query, op), impl.CaseOp, impl.NotImp)
		says("another operation, another class", withOp(asking(nm("com"), impl.TypeAXFR, 3), op), impl.CaseOp, impl.NotImp)
	}
	for _, class := range []int64{0, 2, 3, 254, 255, 256, 65535} {
		says("another class", asking(inEx("web"), impl.TypeA, class), impl.CaseRefused, impl.Refused)
		says("another class, the zone", asking(inEx(), impl.TypeAXFR, class), impl.CaseRefused, impl.Refused)
		says("another class, a meta type", asking(inEx(), 0, class), impl.CaseRefused, impl.Refused)
	}
	for _, name := range []string{root, nm("com"), nm("examplf"), nm("example", "com"), nm("example", "example", "x")} {
		says("elsewhere", asking(name, impl.TypeA, 1), impl.CaseRefused, impl.Refused)
		says("elsewhere, the zone", asking(name, impl.TypeIXFR, 1), impl.CaseRefused, impl.Refused)
		says("elsewhere, a meta type", asking(name, impl.TypeOPT, 1), impl.CaseRefused, impl.Refused)
	}
	for _, rtype := range []int64{0, 41, 249, 250, 253, 254} {
		says("a meta type", asking(inEx("web"), rtype, 1), impl.CaseMeta, impl.NotImp)
		says("a meta type of what is not there", asking(inEx("none"), rtype, 1), impl.CaseMeta, impl.NotImp)
		says("a meta type below a cut", asking(inEx("h", "sub"), rtype, 1), impl.CaseMeta, impl.NotImp)
	}
}

// Of the bits of a query only RD, and of its lists only what the cases name, show in the reply.
func TestRespondBits(t *testing.T) {
	z := docZone(t)
	for n := range 64 {
		ask := asking(inEx("web"), impl.TypeA, 1)
		on := func(bit int) bool { return n>>bit&1 == 1 }
		ask.Head = impl.Head{ID: int64(n * 1000), AA: on(0), TC: on(1), RD: on(2), RA: on(3), Z: on(4), AD: on(5), CD: on(0), Code: int64(n % 16)}
		ask.Answer, ask.Authority = records(t, "web A 192.0.2.99"), records(t, "@ NS ns9")
		ask.Extra = records(t, "ns9 A 192.0.2.9")
		reply := saying(replyTo(ask, impl.NoError), records(t, "web A 192.0.2.80"), nil, nil)
		checkWays(t, z, replyCase{fmt.Sprint("bits ", n), ask, impl.CaseAnswer, reply})
		checkWays(t, z, replyCase{fmt.Sprint("bits ", n), withOp(ask, 9), impl.CaseOp, replyTo(withOp(ask, 9), impl.NotImp)})
	}
	for _, id := range []int64{0, 1, 255, 256, 65535} {
		ask := asking(nm("com"), impl.TypeA, 1)
		ask.Head.ID = id
		checkWays(t, z, replyCase{fmt.Sprint("ID ", id), ask, impl.CaseRefused, replyTo(ask, impl.Refused)})
	}
}

// What is ill formed has no question, no record and no signature, whatever it has.
func TestRespondForm(t *testing.T) {
	key := keyOf("key", "secret")
	s := impl.Server{Zone: docZone(t), Keys: []impl.Key{key}}
	query := asking(inEx("web"), impl.TypeA, 1)
	two, none := query, query
	two.Questions, none.Questions = append(two.Questions, query.Questions...), nil
	for tell, b := range map[string]string{
		"no question":               asked(none),
		"two questions":             asked(two),
		"two, with OPT":             asked(withExtra(two, optOf(512, 32768))),
		"two, signed":               signedBy(asked(two), key, 1000, ""),
		"none, with OPT and signed": signedBy(asked(withExtra(none, optOf(512, 0))), key, 1000, ""),
		"two OPT":                   signedBy(asked(withExtra(query, optOf(512, 0), optOf(512, 0))), key, 1000, ""),
		"OPT of ill data":           signedBy(asked(withExtra(query, optOf(512, 0, "x"))), key, 1000, ""),
		"a byte behind":             signedBy(asked(query), key, 1000, "") + "x",
		"12 bytes":                  asked(query)[:12],
		"too long":                  asked(query) + strings.Repeat("x", 70000),
		"a signature in the answer": "\x12\x34\x01\x00\x00\x01\x00\x01" + asked(query)[8:] + signedBy(asked(query), key, 1000, "")[len(asked(query)):],
	} {
		want := impl.Reply{Case: 2, Messages: [][]byte{[]byte("\x12\x34\x81\x01\x00\x00\x00\x00\x00\x00\x00\x00")}}
		for _, tcp := range []bool{false, true} {
			checkRespond(t, tell, s, b, tcp, 1000, want, s, impl.OK)
			// The operation stands in the reply, and RD just if it was set.
			want := impl.Reply{Case: 2, Messages: [][]byte{[]byte("\x00\x07\xf8\x01\x00\x00\x00\x00\x00\x00\x00\x00")}}
			checkRespond(t, tell, s, "\x00\x07\x7e\xff"+b[4:], tcp, 1000, want, s, impl.OK)
		}
	}
	for tell, b := range map[string]string{"nothing": "", "one byte": "\x12", "11 bytes": asked(query)[:11], "QR": "\x12\x34\x80\x00" + asked(query)[4:], "QR, 12 bytes": "\x12\x34\xff\xff\xff\xff\xff\xff\xff\xff\xff\xff"} {
		for _, tcp := range []bool{false, true} {
			checkRespond(t, tell, s, b, tcp, 1000, impl.Reply{Case: 1}, s, impl.OK)
		}
	}
}

// The version above 0: the code 16 stands in the head and in the record, in two parts.
func TestRespondVersion(t *testing.T) {
	key := keyOf("key", "secret")
	s := impl.Server{Zone: docZone(t), Keys: []impl.Key{key}}
	for _, ask := range []impl.Message{
		asking(inEx("web"), impl.TypeA, 1), asking(nm("com"), impl.TypeAXFR, 3), withOp(asking(inEx(), impl.TypeSOA, 1), impl.OpUpdate),
	} {
		for _, c := range [][2]int64{{65536, 0}, {255 * 65536, 0}, {65536 + 32768, 32768}, {65536 + 32767, 0}, {0xffffffff, 32768}} {
			m := withExtra(ask, optOf(512, c[0], optionOf(1, "x")))
			reply := withExtra(replyTo(ask, 0), optOf(4096, 16777216+c[1]))
			for _, tcp := range []bool{false, true} {
				checkRespond(t, "another version", s, asked(m), tcp, 1000, oneReply(4, reply), s, impl.OK)
				signed := signedBy(asked(m), key, 1000, "")
				sum := tsigOf(asked(m), key, 1000, 300, "").sum
				want := impl.Reply{Case: 4, Messages: [][]byte{[]byte(signedBy(asked(reply), key, 1000, sum))}}
				checkRespond(t, "another version, signed", s, signed, tcp, 1000, want, s, impl.OK)
				// By another key the reply is not signed, but still of this case.
				other := signedBy(asked(m), keyOf("key", "other"), 1000, "")
				checkRespond(t, "another version, by another key", s, other, tcp, 1000, oneReply(4, reply), s, impl.OK)
			}
		}
	}
}

// Signatures that do not hold, whatever is asked; nothing is signed then.
func TestRespondSign(t *testing.T) {
	key := keyOf("key", "secret")
	s := impl.Server{Zone: docZone(t), Keys: []impl.Key{keyOf("first", "x"), key, keyOf("key", "third")}}
	for _, ask := range []impl.Message{
		asking(inEx("web"), impl.TypeA, 1), asking(inEx(), impl.TypeAXFR, 1), asking(nm("com"), impl.TypeA, 1), asking(inEx(), 0, 1), asking(inEx(), impl.TypeA, 3),
		updateMessage(inEx(), nil, asks(t, "+new A 192.0.2.1")), withExtra(asking(inEx("web"), impl.TypeA, 1), optOf(1232, 32768)),
	} {
		b := asked(ask)
		reply := replyTo(ask, impl.NotAuth)
		if len(ask.Extra) > 0 {
			reply.Extra = []impl.RR{optOf(4096, 32768)}
		}
		sign := func(do func(s *tsig)) string {
			s := tsigOf(b, key, 1000, 300, "")
			do(&s)
			return behind(b, s.record())
		}
		for tell, signed := range map[string]string{
			"an unknown key":  signedBy(b, keyOf("unknown", "secret"), 1000, ""),
			"another secret":  signedBy(b, keyOf("key", "Secret"), 1000, ""),
			"a later key":     signedBy(b, keyOf("key", "third"), 1000, ""),
			"too early":       signedBy(b, key, 699, ""),
			"too late":        signedBy(b, key, 1301, ""),
			"a request's sum": signedBy(b, key, 1000, "sum"),
			"another sum":     sign(func(s *tsig) { s.sum = strings.Repeat("s", 32) }),
			"another ID":      sign(func(s *tsig) { s.id = "\xff\xff" }),
			"another fudge":   sign(func(s *tsig) { s.fudge = 301 }),
		} {
			for _, tcp := range []bool{false, true} {
				checkRespond(t, tell, s, signed, tcp, 1000, oneReply(5, reply), s, impl.OK)
			}
		}
	}
	// An operation that is not known comes first.
	op := withOp(asking(inEx("web"), impl.TypeA, 1), 2)
	checkRespond(t, "another operation", s, signedBy(asked(op), keyOf("unknown", "x"), 1000, ""), false, 1000, oneReply(3, replyTo(op, 4)), s, impl.OK)
	// A server without keys knows none.
	bare := impl.Server{Zone: docZone(t)}
	ask := asking(inEx("web"), impl.TypeA, 1)
	checkRespond(t, "no keys", bare, signedBy(asked(ask), key, 1000, ""), false, 1000, oneReply(5, replyTo(ask, 9)), bare, impl.OK)
}

// A message that another server handed on has another ID than the one that was signed: the reply has the one that came.
func TestRespondOtherID(t *testing.T) {
	key := keyOf("key", "secret")
	s := impl.Server{Zone: docZone(t), Keys: []impl.Key{key}}
	ask := asking(inEx("web"), impl.TypeA, 1)
	signed := signedBy(asked(ask), key, 1000, "")
	sum := tsigOf(asked(ask), key, 1000, 300, "").sum
	reply := saying(replyTo(ask, 0), records(t, "web A 192.0.2.80"), nil, nil)
	reply.Head.ID = 0x5678
	want := impl.Reply{Case: 10, Messages: [][]byte{[]byte(signedBy(asked(reply), key, 1000, sum))}}
	checkRespond(t, "another ID", s, "\x56\x78"+signed[2:], false, 1000, want, s, impl.OK)
}

// Times within the fudge, and the ends of time.
func TestRespondTime(t *testing.T) {
	key := keyOf("key", "secret")
	s := impl.Server{Zone: docZone(t), Keys: []impl.Key{key}}
	ask := asking(inEx("web"), impl.TypeA, 1)
	reply := saying(replyTo(ask, 0), records(t, "web A 192.0.2.80"), nil, nil)
	for _, c := range [][2]int64{{0, 0}, {0, 300}, {300, 0}, {1000, 700}, {1000, 1300}, {lastTime, lastTime}, {lastTime - 300, lastTime}, {lastTime, lastTime - 300}} {
		sum := tsigOf(asked(ask), key, c[0], 300, "").sum
		want := impl.Reply{Case: 10, Messages: [][]byte{[]byte(signedBy(asked(reply), key, c[1], sum))}}
		checkRespond(t, fmt.Sprint("times ", c), s, signedBy(asked(ask), key, c[0], ""), false, c[1], want, s, impl.OK)
	}
	for _, now := range []int64{0, 1, lastTime - 1, lastTime} {
		checkRespond(t, fmt.Sprint("now ", now), s, asked(ask), false, now, oneReply(10, reply), s, impl.OK)
	}
	for _, now := range []int64{-1, lastTime + 1, math.MinInt64, math.MaxInt64} {
		for _, b := range []string{asked(ask), "", "ill", asked(ask) + "x"} {
			checkRespond(t, fmt.Sprint("now ", now), s, b, false, now, impl.Reply{}, impl.Server{}, impl.ErrForm)
		}
	}
}

// Servers that are not valid answer nothing, whatever they are asked.
func TestRespondNoServer(t *testing.T) {
	z := docZone(t)
	ask := asked(asking(inEx("web"), impl.TypeA, 1))
	ill := func(tell string, s impl.Server) {
		t.Helper()
		for _, b := range []string{ask, "", ask + "x", asked(updateMessage(inEx(), nil, nil))} {
			for _, tcp := range []bool{false, true} {
				checkRespond(t, tell, s, b, tcp, 0, impl.Reply{}, impl.Server{}, impl.ErrForm)
			}
		}
	}
	fine := func(tell string, s impl.Server) {
		t.Helper()
		checkSecond(t, tell, s, ask, false, 0)
		if _, _, code := impl.Respond(s, []byte(ask), false, 0); code != impl.OK {
			t.Errorf("%s: Respond = %d", tell, code)
		}
	}
	for tell, z := range noZones(z) {
		ill(tell, impl.Server{Zone: z})
	}
	for tell, k := range map[string]impl.Key{
		"no name": {Secret: "x"}, "half a name": {Name: "\x01", Secret: "x"}, "no secret": {Name: nm("key")},
		"a long secret": {Name: nm("key"), Secret: strings.Repeat("x", 65)}, "a long name": {Name: nameOf(256), Secret: "x"},
	} {
		ill(tell, impl.Server{Zone: z, Keys: []impl.Key{k}})
		ill(tell+" behind", impl.Server{Zone: z, Keys: []impl.Key{keyOf("key", "x"), k}})
	}
	keys := slices.Repeat([]impl.Key{keyOf("key", strings.Repeat("x", 64))}, 9)
	fine("8 keys", impl.Server{Zone: z, Keys: keys[:8]})
	ill("9 keys", impl.Server{Zone: z, Keys: keys})
	zones, history := fourZones(t)
	last := zones[3]
	fine("a history", impl.Server{Zone: last, History: history})
	fine("its end", impl.Server{Zone: last, History: history[2:]})
	ill("a history without its end", impl.Server{Zone: last, History: history[:2]})
	ill("a history with a hole", impl.Server{Zone: last, History: []impl.Change{history[0], history[2]}})
	ill("a history of another zone", impl.Server{Zone: zones[2], History: history})
	ill("a change twice", impl.Server{Zone: last, History: append(slices.Clone(history), history[2])})
	many := hostChanges(1, 41)
	host := mustBuild(t, []impl.RR{soaOf(inEx(), 42), rrOf(inEx(), impl.TypeNS, nm("ns"))}, inEx())
	fine("40 changes", impl.Server{Zone: host, History: many[1:]})
	ill("41 changes", impl.Server{Zone: host, History: many})
	// Records in changes: not too many, and such as messages have; they need not fit the zone.
	with := func(do func(c *impl.Change)) impl.Server {
		s := cloneServer(impl.Server{Zone: last, History: history})
		do(&s.History[0])
		return s
	}
	fill := slices.Repeat([]impl.RR{rrOf(root, 65280, "x")}, 501)
	fine("500 of each", with(func(c *impl.Change) { c.Del, c.Add = fill[:500], fill[:500] }))
	ill("501 in Del", with(func(c *impl.Change) { c.Del = fill }))
	ill("501 in Add", with(func(c *impl.Change) { c.Add = fill }))
	fine("another Old", with(func(c *impl.Change) { c.Old = rrOf(root, impl.TypeA, "abcd") }))
	for tell, rr := range illRecords(rrOf(inEx("x"), impl.TypeA, "abcd")) {
		ill(tell+" in Del", with(func(c *impl.Change) { c.Del = append(c.Del, rr) }))
		ill(tell+" in Add", with(func(c *impl.Change) { c.Add = append(c.Add, rr) }))
		ill(tell+" as Old", with(func(c *impl.Change) { c.Old = rr }))
	}
	for _, rr := range []impl.RR{rrOf(root, impl.TypeA, ""), inTime(rrOf(root, impl.TypeA, "abcd"), 4294967295), rrOf(nameOf(255), 65535, strings.Repeat("x", 65535))} {
		fine("odd records", with(func(c *impl.Change) { c.Del, c.Add, c.Old = []impl.RR{rr}, []impl.RR{rr, rr}, rr }))
	}
	ill("no server", impl.Server{})
}

// A reply with more entries than a message may have can't be sent: the question alone stands then, and no signature.
func TestRespondTooMany(t *testing.T) {
	several := func(n int) impl.Server {
		list := begun(inEx())
		for i := range n {
			list = append(list, rrOf(inEx("a"), impl.TypeA, be(int64(i), 4)))
		}
		return impl.Server{Zone: mustBuild(t, list, inEx()), Keys: []impl.Key{keyOf("key", "secret")}}
	}
	ask := asking(inEx("a"), impl.TypeA, 1)
	withOpt := withExtra(ask, optOf(4096, 32768))
	for _, tcp := range []bool{false, true} {
		for _, n := range []int{398, 399, 400, 497} {
			s := several(n)
			for _, ask := range []impl.Message{ask, withOpt} {
				want := oneReply(10, replyTo(ask, impl.ServFail))
				isTooMany := n+1+len(ask.Extra) > 400
				if isTooMany {
					checkRespond(t, fmt.Sprint(n), s, asked(ask), tcp, 1000, want, s, impl.OK)
					checkRespond(t, fmt.Sprint(n, " signed"), s, signedBy(asked(ask), s.Keys[0], 1000, ""), tcp, 1000, want, s, impl.OK)
					continue
				}
				checkSecond(t, fmt.Sprint(n), s, asked(ask), tcp, 1000)
				if got, _, _ := impl.Respond(s, []byte(asked(ask)), tcp, 1000); sameReply(got, want) {
					t.Errorf("%d records are too many", n)
				}
			}
		}
	}
}
