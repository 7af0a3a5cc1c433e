package tests

import (
	"slices"
	"strings"
	"testing"

	"loop.example/s01858/impl"
)

// The document's query and its reply, and the reply to a message that is ill formed.
const (
	docQuery = "\x12\x34\x01\x00\x00\x01\x00\x00\x00\x00\x00\x00\x03www\x07example\x00\x00\x01\x00\x01"
	docReply = "\x12\x34\x85\x00\x00\x01\x00\x02\x00\x00\x00\x00\x03www\x07example\x00\x00\x01\x00\x01" +
		"\xc0\x0c\x00\x05\x00\x01\x00\x00\x0e\x10\x00\x06\x03web\xc0\x10" + "\xc0\x29\x00\x01\x00\x01\x00\x00\x0e\x10\x00\x04\xc0\x00\x02\x50"
	illReply = "\x12\x34\x81\x01\x00\x00\x00\x00\x00\x00\x00\x00"
)

// runCase is a script of the document's zone, what comes out of it, and the server behind it.
type runCase struct {
	tell   string
	events []impl.Event
	want   []impl.Out
	next   impl.Server
}

// checkRunCases holds scripts of the document's zone.
func checkRunCases(t *testing.T, cases []runCase) {
	t.Helper()
	for _, c := range cases {
		checkScript(t, c.tell, script{text: exampleZone, now: 1000, events: c.events}, c.want, c.next, impl.OK)
	}
}

// changeOf is a message that adds an address, the reply to it, and what becomes of a server of the document's zone.
func changeOf(t *testing.T, s impl.Server, label string) (ask, reply string, next impl.Server) {
	t.Helper()
	a := aRecord(inEx(label), 60)
	m := updateMessage(inEx(), nil, []impl.RR{a})
	m.Head.ID = 7
	list := impl.ZoneRecords(s.Zone)
	for i, rr := range list {
		if rr.Type == impl.TypeSOA {
			list[i].Data, _ = impl.WithSerial(rr.Data, serialOf(s.Zone)+1)
		}
	}
	z := mustBuild(t, append(list, a), inEx())
	return asked(m), asked(replyTo(m, 0)), serverBehind(s, z, impl.Change{Old: soaIn(s.Zone), New: soaIn(z), Add: []impl.RR{a}})
}

// aQuery asks for a name's address; aReply is the reply to it if it was added.
func aQuery(label string) string { return asked(asking(inEx(label), impl.TypeA, 1)) }
func aReply(label string) string {
	m := asking(inEx(label), impl.TypeA, 1)
	return asked(saying(replyTo(m, 0), []impl.RR{aRecord(inEx(label), 60)}, nil, nil))
}

// noReply is the reply to aQuery of a name that is not there.
func noReply(s impl.Server, label string) string {
	soa := soaIn(s.Zone)
	soa.TTL = 300
	return asked(saying(replyTo(asking(inEx(label), impl.TypeA, 1), 3), nil, []impl.RR{soa}, nil))
}

func TestRunServerDatagrams(t *testing.T) {
	s := impl.Server{Zone: docZone(t)}
	add, added, next := changeOf(t, s, "new")
	more, moreAdded, last := changeOf(t, next, "more")
	all := asked(asking(inEx(), impl.TypeAXFR, 1))
	checkRunCases(t, []runCase{
		{"nothing", nil, nil, s},
		{"a query", []impl.Event{datagram("a", docQuery)}, []impl.Out{outDatagram(0, "a", docReply)}, s},
		{"from nobody", []impl.Event{datagram("", docQuery)}, []impl.Out{outDatagram(0, "", docReply)}, s},
		{"from anybody", []impl.Event{datagram("\x00\xff\n", docQuery)}, []impl.Out{outDatagram(0, "\x00\xff\n", docReply)}, s},
		{"two", []impl.Event{datagram("a", docQuery), datagram("b", docQuery)}, []impl.Out{outDatagram(0, "a", docReply), outDatagram(1, "b", docReply)}, s},
		{"those that are dropped", []impl.Event{datagram("a", ""), datagram("a", docQuery[:11]), datagram("a", docReply)}, nil, s},
		{"one between those that are dropped", []impl.Event{datagram("a", ""), datagram("b", docQuery), datagram("c", docReply)}, []impl.Out{outDatagram(1, "b", docReply)}, s},
		{"ill ones", []impl.Event{datagram("a", docQuery+"x"), datagram("b", docQuery[:12])}, []impl.Out{outDatagram(0, "a", illReply), outDatagram(1, "b", illReply)}, s},
		{"queries beside ill ones", []impl.Event{datagram("a", docQuery), datagram("b", docQuery+"x"), datagram("c", docQuery)},
			[]impl.Out{outDatagram(0, "a", docReply), outDatagram(1, "b", illReply), outDatagram(2, "c", docReply)}, s},
		{"another operation", []impl.Event{datagram("a", "\x12\x34\x17\xff"+docQuery[4:])}, []impl.Out{outDatagram(0, "a", "\x12\x34\x91\x04"+docQuery[4:])}, s},
		{"a transfer", []impl.Event{datagram("a", all)}, []impl.Out{outDatagram(0, "a", asked(replyTo(asking(inEx(), impl.TypeAXFR, 1), 5)))}, s},
		{"a change", []impl.Event{datagram("a", add)}, []impl.Out{outDatagram(0, "a", added)}, next},
		{"a change between queries", []impl.Event{datagram("a", aQuery("new")), datagram("b", aQuery("new")), datagram("c", add), datagram("d", aQuery("new")), datagram("e", aQuery("new"))},
			[]impl.Out{outDatagram(0, "a", noReply(s, "new")), outDatagram(1, "b", noReply(s, "new")), outDatagram(2, "c", added), outDatagram(3, "d", aReply("new")), outDatagram(4, "e", aReply("new"))}, next},
		{"changes", []impl.Event{datagram("a", add), datagram("a", add), datagram("a", aQuery("more")), datagram("a", more), datagram("a", aQuery("more"))},
			[]impl.Out{outDatagram(0, "a", added), outDatagram(1, "a", added), outDatagram(2, "a", noReply(next, "more")), outDatagram(3, "a", moreAdded), outDatagram(4, "a", aReply("more"))}, last},
		{"kinds that there are not", []impl.Event{{Kind: 0, From: "a", Bytes: []byte(add)}, {Kind: 7, From: "a", Bytes: []byte(add)}, {Kind: -1, Bytes: []byte(docQuery)}, {Kind: 1 << 40, Bytes: []byte(docQuery)}, datagram("a", docQuery)},
			[]impl.Out{outDatagram(4, "a", docReply)}, s},
	})
	// What belongs to other kinds counts for nothing.
	odd := impl.Event{Kind: 1, Conn: 5, N: 6, From: "a", Bytes: []byte(docQuery)}
	checkRunCases(t, []runCase{{"more than a datagram has", []impl.Event{odd}, []impl.Out{outDatagram(0, "a", docReply)}, s}})
}

// chunks is the bytes of a connection in events.
func chunks(conn int64, list ...string) []impl.Event {
	var out []impl.Event
	for _, b := range list {
		out = append(out, chunk(conn, b))
	}
	return out
}

func TestRunServerStreams(t *testing.T) {
	s := impl.Server{Zone: docZone(t)}
	add, added, next := changeOf(t, s, "new")
	q, cut := stream(docQuery), len(docQuery)/2
	run := func(events ...impl.Event) []impl.Event { return append([]impl.Event{openConn()}, events...) }
	came := func(outs ...impl.Out) []impl.Out { return append([]impl.Out{outOpened(0, 1)}, outs...) }
	records := impl.ZoneRecords(s.Zone)
	soa := soaIn(s.Zone)
	whole := asking(inEx(), impl.TypeAXFR, 1)
	handed := asked(sent(0x1234, whole.Questions, slices.Concat([]impl.RR{soa}, othersIn(s.Zone), []impl.RR{soa})...))
	if len(records) != 10 {
		t.Fatalf("%d records", len(records))
	}
	checkRunCases(t, []runCase{
		{"no bytes", run(chunk(1, "")), came(), s},
		{"a query", run(chunk(1, q)), came(outBytes(1, 1, docReply)), s},
		{"two in one", run(chunk(1, q+q)), came(outBytes(1, 1, docReply), outBytes(1, 1, docReply)), s},
		{"two in two", run(chunks(1, q, q)...), came(outBytes(1, 1, docReply), outBytes(2, 1, docReply)), s},
		{"cut", run(chunks(1, q[:cut], q[cut:])...), came(outBytes(2, 1, docReply)), s},
		{"cut in its length", run(chunks(1, q[:1], q[1:])...), came(outBytes(2, 1, docReply)), s},
		{"cut behind its length", run(chunks(1, q[:2], q[2:])...), came(outBytes(2, 1, docReply)), s},
		{"one and a half", run(chunks(1, q+q[:cut], q[cut:]+q[:1], q[1:])...), came(outBytes(1, 1, docReply), outBytes(2, 1, docReply), outBytes(3, 1, docReply)), s},
		{"not whole", run(chunk(1, q[:len(q)-1])), came(), s},
		{"an empty one between", run(chunks(1, q[:cut], "", q[cut:])...), came(outBytes(3, 1, docReply)), s},
		{"one that is dropped", run(chunk(1, stream("short", docReply, docQuery))), came(outBytes(1, 1, docReply)), s},
		{"one that is ill", run(chunk(1, stream(docQuery+"x", docQuery))), came(outBytes(1, 1, illReply), outBytes(1, 1, docReply)), s},
		{"a frame of one byte", run(chunk(1, stream("x"))), came(), s},
		{"a change", run(chunk(1, stream(aQuery("new"), add, aQuery("new")))), came(outBytes(1, 1, noReply(s, "new")), outBytes(1, 1, added), outBytes(1, 1, aReply("new"))), next},
		{"a change, then a datagram", run(chunk(1, stream(add)), datagram("a", aQuery("new"))), came(outBytes(1, 1, added), outDatagram(2, "a", aReply("new"))), next},
		{"a transfer", run(chunk(1, stream(asked(whole)))), came(outBytes(1, 1, handed)), s},
		{"the end", run(chunk(1, "\x00\x00")), came(outClosed(1, 1)), s},
		{"the end behind a query", run(chunk(1, q+"\x00\x00")), came(outBytes(1, 1, docReply), outClosed(1, 1)), s},
		{"the end, cut", run(chunks(1, q+"\x00", "\x00")...), came(outBytes(1, 1, docReply), outClosed(2, 1)), s},
		{"behind the end", run(chunks(1, "\x00\x00"+q+stream(add), q, stream(add))...), came(outClosed(1, 1)), s},
		{"two ends", run(chunks(1, "\x00\x00\x00\x00", "\x00\x00")...), came(outClosed(1, 1)), s},
		{"closed behind the end", run(chunk(1, "\x00\x00"), closeConn(1)), came(outClosed(1, 1)), s},
		{"closed", run(closeConn(1), chunk(1, q)), came(outClosed(1, 1)), s},
		{"closed twice", run(closeConn(1), closeConn(1)), came(outClosed(1, 1)), s},
		{"what was left is lost", run(chunk(1, q[:cut]), closeConn(1), chunk(1, q[cut:]), openConn(), chunk(2, q[cut:]), chunk(1, q)),
			came(outClosed(2, 1), outOpened(4, 2)), s},
		{"what was left ahead of an end", run(chunk(1, "\x00\x00"+q[:cut]), openConn(), chunk(2, q), chunk(1, q)), came(outClosed(1, 1), outOpened(2, 2), outBytes(3, 2, docReply)), s},
		{"none is there", []impl.Event{chunk(1, q), chunk(0, q), chunk(-1, stream(add)), closeConn(1), closeConn(0)}, nil, s},
		{"another one", run(chunk(0, q), chunk(2, stream(add)), chunk(-1, q), closeConn(0), closeConn(2), closeConn(-1), chunk(1<<32+1, q), closeConn(1<<32+1)), came(), s},
		{"not yet there", []impl.Event{chunk(1, q), openConn(), chunk(1, q)}, []impl.Out{outOpened(1, 1), outBytes(2, 1, docReply)}, s},
	})
}

// Connections have no part in one another, and numbers are not given again.
func TestRunServerConns(t *testing.T) {
	s := impl.Server{Zone: docZone(t)}
	q, cut := stream(docQuery), 9
	checkRunCases(t, []runCase{
		{"numbers", []impl.Event{openConn(), openConn(), openConn()}, []impl.Out{outOpened(0, 1), outOpened(1, 2), outOpened(2, 3)}, s},
		{"a number that was there", []impl.Event{openConn(), openConn(), closeConn(2), openConn(), closeConn(1), openConn(), chunk(2, q), chunk(4, q)},
			[]impl.Out{outOpened(0, 1), outOpened(1, 2), outClosed(2, 2), outOpened(3, 3), outClosed(4, 1), outOpened(5, 4), outBytes(7, 4, docReply)}, s},
		{"all were closed", []impl.Event{openConn(), closeConn(1), openConn(), closeConn(2), openConn()}, []impl.Out{outOpened(0, 1), outClosed(1, 1), outOpened(2, 2), outClosed(3, 2), outOpened(4, 3)}, s},
		{"one behind the other", []impl.Event{openConn(), openConn(), chunk(2, q[:cut]), chunk(1, q[:cut+1]), chunk(2, q[cut:]), chunk(1, q[cut+1:])},
			[]impl.Out{outOpened(0, 1), outOpened(1, 2), outBytes(4, 2, docReply), outBytes(5, 1, docReply)}, s},
		{"one ends", []impl.Event{openConn(), openConn(), chunk(1, q[:cut]), chunk(2, q+"\x00\x00"), chunk(1, q[cut:]+q), closeConn(2), closeConn(1)},
			[]impl.Out{outOpened(0, 1), outOpened(1, 2), outBytes(3, 2, docReply), outClosed(3, 2), outBytes(4, 1, docReply), outBytes(4, 1, docReply), outClosed(6, 1)}, s},
		// What belongs to other kinds counts for nothing.
		{"more than they have", []impl.Event{{Kind: 2, Conn: 7, N: 8, From: "a", Bytes: []byte(q)}, {Kind: 3, Conn: 1, N: 7, From: "a", Bytes: []byte(q)}, {Kind: 4, Conn: 1, N: 2, From: "b", Bytes: []byte(q)}, chunk(1, q)},
			[]impl.Out{outOpened(0, 1), outBytes(1, 1, docReply), outClosed(2, 1)}, s},
	})
}

// Frames of the greatest length come in, and go out as long as a message may be.
func TestRunServerLongFrames(t *testing.T) {
	s := impl.Server{Zone: docZone(t)}
	long := docQuery + strings.Repeat("x", 65535-len(docQuery))
	checkRunCases(t, []runCase{
		{"long and ill", []impl.Event{openConn(), chunk(1, stream(long)), chunk(1, stream(docQuery))}, []impl.Out{outOpened(0, 1), outBytes(1, 1, illReply), outBytes(2, 1, docReply)}, s},
		{"long, cut", []impl.Event{openConn(), chunk(1, stream(long)[:65536]), chunk(1, "x"), chunk(1, stream(docQuery))}, []impl.Out{outOpened(0, 1), outBytes(2, 1, illReply), outBytes(3, 1, docReply)}, s},
		{"long, not whole", []impl.Event{openConn(), chunk(1, stream(long)[:65536]), chunk(1, "")}, []impl.Out{outOpened(0, 1)}, s},
	})
	text := "$TTL 60\n@ SOA ns admin 1 1 1 1 1\n@ NS ns\n"
	list := records(t, text)
	for n := range 120 {
		list = append(list, rrOf(inEx("big"), impl.TypeTXT, strings.Repeat(st(itoa(n)+strings.Repeat("b", 252-len(itoa(n)))), 2)))
	}
	z := mustBuild(t, list, inEx())
	show := impl.ZoneRecords(z)
	events := []impl.Event{openConn()}
	for i := 0; i < len(show); i += 30 {
		events = append(events, chunk(1, stream(asked(updateMessage(inEx(), nil, dropThat(slices.Clone(show[i:min(i+30, len(show))]), func(rr impl.RR) bool { return rr.Type != impl.TypeTXT }))))))
	}
	ask := asking(inEx("big"), impl.TypeTXT, 1)
	events = append(events, chunk(1, stream(asked(ask))), datagram("a", asked(ask)))
	run := script{text: text, origin: inEx(), now: 1, events: events}
	checkSecondScript(t, "a long reply", run)
	outs, next, _ := run.run()
	if n := len(outs[len(outs)-2].Bytes); n < 60000 || n > 65537 || serialOf(next.Zone) != 6 {
		t.Errorf("a long reply has %d bytes, at the serial %d", n, serialOf(next.Zone))
	}
}

// Messages that are signed, and a server with keys.
func TestRunServerSigned(t *testing.T) {
	key, other := keyOf("Key", "secret"), keyOf("other", "secret")
	s := impl.Server{Zone: docZone(t), Keys: []impl.Key{other, key}}
	add, added, next := changeOf(t, s, "new")
	whole := asking(inEx(), impl.TypeAXFR, 1)
	soa := soaIn(s.Zone)
	handed := asked(sent(0x1234, whole.Questions, slices.Concat([]impl.RR{soa}, othersIn(s.Zone), []impl.RR{soa})...))
	signed := func(ask, reply string, k impl.Key) (string, string) {
		return signedBy(ask, k, 900, ""), signedBy(reply, k, 1000, tsigOf(ask, k, 900, 300, "").sum)
	}
	query, reply := signed(docQuery, docReply, key)
	query2, reply2 := signed(docQuery, docReply, other)
	change, changed := signed(add, added, key)
	transfer, handedOn := signed(asked(whole), handed, other)
	forged := signedBy(docQuery, impl.Key{Name: key.Name, Secret: "Secret"}, 900, "")
	notAuth := asked(replyTo(asking(inEx("www"), impl.TypeA, 1), 9))
	refused := added[:3] + "\x05" + added[4:]
	events := []impl.Event{
		datagram("a", query), datagram("b", query2), datagram("c", docQuery), datagram("d", forged), datagram("e", add), openConn(),
		chunk(1, stream(query, docQuery, forged, add, asked(whole))), chunk(1, stream(transfer)), chunk(1, stream(change)), datagram("f", aQuery("new")),
	}
	want := []impl.Out{
		outDatagram(0, "a", reply), outDatagram(1, "b", reply2), outDatagram(2, "c", docReply), outDatagram(3, "d", notAuth), outDatagram(4, "e", refused), outOpened(5, 1),
		outBytes(6, 1, reply), outBytes(6, 1, docReply), outBytes(6, 1, notAuth), outBytes(6, 1, refused), outBytes(6, 1, asked(replyTo(whole, 5))),
		outBytes(7, 1, handedOn), outBytes(8, 1, changed), outDatagram(9, "f", aReply("new")),
	}
	checkScript(t, "signed", script{text: exampleZone, keys: s.Keys, now: 1000, events: events}, want, next, impl.OK)
}
