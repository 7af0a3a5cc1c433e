package tests

import (
	"fmt"
	"strings"
	"testing"

	"loop.example/s01858/impl"
)

// Proofs stand beside denials just if they are asked for, of the name that was asked last.
func TestRespondProofs(t *testing.T) {
	z := chained(t, docZone(t))
	link := func(owner string) []impl.RR { return recordsAt(z, owner, impl.TypeNSEC) }
	soa := records(t, "@ 300 SOA ns1 admin 7 7200 900 86400 300")
	apex, ent, ns1, web := link(inEx()), link(inEx("x", "y", "ent")), link(inEx("ns1")), link(inEx("web"))
	for _, c := range []struct {
		name, qtype string
		code        int64
		answer      string
		denies      bool
		proof       [][]impl.RR
	}{
		{"none", "A", 3, "", true, [][]impl.RR{apex, ent}},
		{"web", "MX", 0, "", true, [][]impl.RR{web}},
		{"WEB", "MX", 0, "", true, [][]impl.RR{web}},
		{"ent", "A", 0, "", true, [][]impl.RR{apex}},
		{"a.ent", "A", 3, "", true, [][]impl.RR{apex}},
		{"q.w", "A", 0, "", true, [][]impl.RR{link(inEx("*", "w"))}},
		{"@", "MX", 0, "", true, [][]impl.RR{apex}},
		{"none", "ANY", 3, "", true, [][]impl.RR{apex, ent}},
		// Behind aliases what the last one leads to is denied.
		{"www", "MX", 0, "www CNAME web", true, [][]impl.RR{web}},
		{"a.old", "A", 3, "old DNAME new\na.old CNAME a.new", true, [][]impl.RR{apex, ent}},
		// What is not denied has none.
		{"www", "A", 0, "www CNAME web\nweb A 192.0.2.80", false, nil},
		{"q.w", "TXT", 0, "q.w TXT wild", false, nil},
		{"ns1", "NSEC", 0, "", false, nil},
	} {
		ask := asking(named(t, c.name), typed(t, c.qtype), 1)
		plain := saying(replyTo(ask, c.code), records(t, c.answer), nil, nil)
		if c.qtype == "NSEC" {
			plain.Answer = ns1
		}
		if c.denies {
			plain.Authority = soa
		}
		proved := plain
		for _, list := range c.proof {
			proved.Authority = append(proved.Authority[:len(proved.Authority):len(proved.Authority)], list...)
		}
		tell := c.name + " " + c.qtype
		checkWays(t, z, replyCase{tell, ask, impl.CaseAnswer, plain})
		s := impl.Server{Zone: z}
		for _, flags := range []int64{32768, 65535, 32769} {
			want := oneReply(10, withExtra(proved, optOf(4096, 32768)))
			checkRespond(t, tell+", DO", s, asked(withExtra(ask, optOf(1232, flags))), false, 0, want, s, impl.OK)
			checkRespond(t, tell+", DO", s, asked(withExtra(ask, optOf(0, flags+0x55000000))), true, 0, want, s, impl.OK)
		}
		for _, flags := range []int64{0, 32767, 16384, 1} {
			want := oneReply(10, withExtra(plain, optOf(4096, 0)))
			checkRespond(t, tell+", no DO", s, asked(withExtra(ask, optOf(1232, flags))), false, 0, want, s, impl.OK)
		}
	}
	// A referral has no proof, and a zone without a chain none either.
	ask := withExtra(asking(inEx("h", "sub"), impl.TypeA, 1), optOf(1232, 32768))
	reply := saying(replyTo(ask, 0), nil, records(t, "sub NS ns.sub"), append(records(t, "ns.sub A 192.0.2.53"), optOf(4096, 32768)))
	reply.Head.AA = false
	s := impl.Server{Zone: z}
	checkRespond(t, "a referral", s, asked(ask), false, 0, oneReply(10, reply), s, impl.OK)
	bare := impl.Server{Zone: docZone(t)}
	ask = withExtra(asking(inEx("none"), impl.TypeA, 1), optOf(1232, 32768))
	checkRespond(t, "no chain", bare, asked(ask), false, 0, oneReply(10, saying(replyTo(ask, 3), nil, soa, []impl.RR{optOf(4096, 32768)})), bare, impl.OK)
}

// sized is a zone whose answer of inEx("a") and the type 65280 makes a reply of so many bytes, records of TypeOPT and
// signatures counted.
func sized(t *testing.T, ask impl.Message, reply int, rest int) (impl.Zone, impl.Message) {
	t.Helper()
	head := len(asked(replyTo(ask, 0)))
	rr := rrOf(inEx("a"), 65280, strings.Repeat("x", reply-rest-head-12))
	return mustBuild(t, begun(inEx(), rr), inEx()), saying(replyTo(ask, 0), []impl.RR{rr}, nil, nil)
}

// The budget of a reply, to the byte: what fits is whole, with one byte more the answer is gone and TC is set.
func TestRespondBudget(t *testing.T) {
	keys := []impl.Key{{Name: root, Secret: "x"}, {Name: nm("key", "zone"), Secret: "secret"}, {Name: nameOf(200), Secret: "y"}}
	ask := asking(inEx("a"), 65280, 1)
	for _, c := range []struct {
		tcp    bool
		opt    int64
		budget int
	}{
		{false, -1, 512}, {false, 0, 512}, {false, 1, 512}, {false, 511, 512}, {false, 512, 512}, {false, 513, 513}, {false, 1232, 1232},
		{false, 4095, 4095}, {false, 4096, 4096}, {false, 4097, 4096}, {false, 65535, 4096},
		{true, -1, 65535}, {true, 0, 65535}, {true, 512, 65535}, {true, 4096, 65535}, {true, 65535, 65535},
	} {
		for i := -1; i < len(keys); i++ {
			ask, rest, opt := ask, 0, []impl.RR(nil)
			if c.opt >= 0 {
				ask, rest, opt = withExtra(ask, optOf(c.opt, 0)), 11, []impl.RR{optOf(4096, 0)}
			}
			b := asked(ask)
			s := impl.Server{Keys: keys}
			sign := func(b string) string { return b }
			if i >= 0 {
				rest += len(keys[i].Name) + 71
				sum := tsigOf(b, keys[i], 1000, 300, "").sum
				b = signedBy(b, keys[i], 1000, "")
				sign = func(b string) string { return signedBy(b, keys[i], 1000, sum) }
			}
			tell := fmt.Sprintf("stream %t, size %d, key %d", c.tcp, c.opt, i)
			for more := range 3 {
				z, reply := sized(t, ask, c.budget+more-1, rest)
				if more == 2 {
					reply.Answer, reply.Head.TC = nil, true
				}
				s.Zone = z
				want := sign(asked(withExtra(reply, opt...)))
				if more < 2 && len(want) != c.budget+more-1 {
					t.Fatalf("%s: %d bytes", tell, len(want))
				}
				checkRespond(t, fmt.Sprint(tell, ", ", more-1, " more"), s, b, c.tcp, 1000, impl.Reply{Case: 10, Messages: [][]byte{[]byte(want)}}, s, impl.OK)
			}
		}
	}
}

// What goes first: addresses, then what stands in authority, then the answer.
func TestRespondTruncated(t *testing.T) {
	text := "a NS x.a\na NS y.a\n"
	for n := range 15 {
		text += fmt.Sprintf("x.a A 192.0.2.%d\ny.a A 192.0.2.%d\n", n, n)
	}
	for n := range 40 {
		text += fmt.Sprintf("t TXT text%d\nb NS n%d.elsewhere.\n", n, n)
	}
	z := zoneAnd(t, text)
	s := impl.Server{Zone: z}
	at := func(name string, rtype int64) []impl.RR { return recordsAt(z, named(t, name), rtype) }
	// A referral: its servers stay, and one of the two sets of addresses.
	ask := asking(named(t, "q.a"), impl.TypeA, 1)
	reply := saying(replyTo(ask, 0), nil, at("a", impl.TypeNS), at("x.a", impl.TypeA))
	reply.Head.AA = false
	full := withExtra(reply, at("y.a", impl.TypeA)...)
	checkRespond(t, "addresses", s, asked(ask), true, 0, oneReply(10, full), s, impl.OK)
	checkRespond(t, "addresses", s, asked(ask), false, 0, oneReply(10, reply), s, impl.OK)
	for size, left := range map[int64]impl.Message{0: reply, 512: reply, 4096: full} {
		checkRespond(t, "addresses, OPT", s, asked(withExtra(ask, optOf(size, 0))), false, 0, oneReply(10, withExtra(left, optOf(4096, 0))), s, impl.OK)
	}
	// A referral to too many servers.
	ask = asking(named(t, "q.b"), impl.TypeA, 1)
	none := replyTo(ask, 0)
	none.Head.TC = true
	checkRespond(t, "servers", s, asked(ask), false, 0, oneReply(10, none), s, impl.OK)
	// An answer that is too long, as a datagram and over a stream.
	ask = asking(named(t, "t"), impl.TypeTXT, 1)
	cut := saying(replyTo(ask, 0), nil, nil, nil)
	cut.Head.TC = true
	checkRespond(t, "an answer", s, asked(ask), false, 0, oneReply(10, cut), s, impl.OK)
	checkRespond(t, "an answer, a stream", s, asked(ask), true, 0, oneReply(10, saying(replyTo(ask, 0), at("t", impl.TypeTXT), nil, nil)), s, impl.OK)
	checkRespond(t, "an answer, OPT", s, asked(withExtra(ask, optOf(4096, 0))), false, 0,
		oneReply(10, saying(replyTo(ask, 0), at("t", impl.TypeTXT), nil, []impl.RR{optOf(4096, 0)})), s, impl.OK)
}

// Head, question, record of TypeOPT and signature may be too long by themselves: they stay.
func TestRespondTooLong(t *testing.T) {
	key := impl.Key{Name: nameOf(255), Secret: "x"}
	s := impl.Server{Zone: mustBuild(t, begun(root), root), Keys: []impl.Key{key}}
	ask := withExtra(asking(nameOf(255), impl.TypeA, 1), optOf(512, 0))
	b := asked(ask)
	reply := saying(replyTo(ask, 3), nil, nil, []impl.RR{optOf(4096, 0)})
	reply.Head.TC = true
	signed := signedBy(asked(reply), key, 1000, tsigOf(b, key, 1000, 300, "").sum)
	if len(signed) != 12+259+11+255+71 {
		t.Errorf("%d bytes", len(signed))
	}
	checkRespond(t, "too long", s, signedBy(b, key, 1000, ""), false, 1000, impl.Reply{Case: 10, Messages: [][]byte{[]byte(signed)}}, s, impl.OK)
}
