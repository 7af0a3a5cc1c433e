package tests

import (
	"fmt"
	"math/rand"
	"slices"
	"strings"
	"testing"

	"loop.example/s01858/impl"
)

func checkIn(t *testing.T, tell string, z impl.Zone, q impl.Question, id int64, msgs [][]byte, want impl.Zone, code int64) {
	t.Helper()
	if got, gotCode := impl.TransferIn(z, q, id, msgs); gotCode != code || !sameZone(got, want) {
		t.Errorf("%s: TransferIn of %d messages = %s, %d, want %s, %d", tell, len(msgs), tellZone(got), gotCode, tellZone(want), code)
	}
}

// checkNoIn holds TransferIn to a code, with nothing beside.
func checkNoIn(t *testing.T, tell string, z impl.Zone, q impl.Question, id int64, msgs [][]byte, code int64) {
	t.Helper()
	checkIn(t, tell, z, q, id, msgs, impl.Zone{}, code)
}

// inOne is records in one message, with the question and the ID 5.
func inOne(t *testing.T, q impl.Question, list []impl.RR) [][]byte {
	t.Helper()
	return bytesOf(t, sent(5, []impl.Question{q}, list...))
}

// inEach is records in messages of so many each, the first with the question, with the ID 5.
func inEach(t *testing.T, q impl.Question, list []impl.RR, n int) [][]byte {
	t.Helper()
	questions := []impl.Question{q}
	var out [][]byte
	for part := range slices.Chunk(list, n) {
		out = append(out, bytesOf(t, sent(5, questions, part...))...)
		questions = nil
	}
	return out
}

// inCase is the records of a transfer, `SOA n` in place of the SOA with that serial, and the zone or the code.
type inCase struct {
	list string
	want impl.Zone
	code int64
}

// transferred is the records of a text in which `SOA n` stands for the line of an SOA.
func transferred(t *testing.T, text string) []impl.RR {
	t.Helper()
	out := ""
	for _, line := range strings.Split(text, "\n") {
		var serial int64
		if n, _ := fmt.Sscanf(line, "SOA %d", &serial); n == 1 {
			line = soaText(serial)
		}
		out += line + "\n"
	}
	return records(t, out)
}

// checkInCases holds TransferIn to cases of a zone, in one message and in several.
func checkInCases(t *testing.T, z impl.Zone, q impl.Question, cases []inCase) {
	t.Helper()
	for _, c := range cases {
		list := transferred(t, c.list)
		checkIn(t, fmt.Sprintf("%d: %q", q.Type, c.list), z, q, 5, inOne(t, q, list), c.want, c.code)
		for _, n := range []int{1, 2, 3} {
			if len(list) > n {
				checkIn(t, fmt.Sprintf("%d: %q in parts of %d", q.Type, c.list, n), z, q, 5, inEach(t, q, list, n), c.want, c.code)
			}
		}
	}
}

// Taken in whole: of either type, and whatever the serials are.
func TestInWhole(t *testing.T) {
	z := zoneWith(t, 7, startZone)
	small := "@ NS ns\nb TXT x\n"
	for _, q := range []impl.Question{askAll(inEx()), askSome(inEx())} {
		checkInCases(t, z, q, []inCase{
			{"SOA 8\n" + small + "SOA 8", zoneWith(t, 8, small), impl.OK},
			{"SOA 8\n" + startZone + "SOA 8", zoneWith(t, 8, startZone), impl.OK},
			{"SOA 6\n" + small + "SOA 6", zoneWith(t, 6, small), impl.OK},
			{"SOA 7\n" + small + "SOA 7", zoneWith(t, 7, small), impl.OK},
			{"SOA 7\n" + startZone + "SOA 7", z, impl.OK},
			{"SOA 2147483655\n" + small + "SOA 2147483655", zoneWith(t, 2147483655, small), impl.OK},
			// In another order, with a record again.
			{"SOA 8\nb TXT x\n@ NS ns\nb TXT x\nSOA 8", zoneWith(t, 8, small), impl.OK},
			{"SOA 8\n@ NS ns\nB TXT x\nb A 192.0.2.1\nSOA 8", zoneWith(t, 8, "@ NS ns\nB TXT x\nB A 192.0.2.1"), impl.OK},
			// No zone.
			{"SOA 8\nSOA 8", impl.Zone{}, impl.ErrNS},
			{"SOA 8\nb TXT x\nSOA 8", impl.Zone{}, impl.ErrNS},
			{"SOA 8\n@ NS ns\ncom. TXT x\nSOA 8", impl.Zone{}, impl.ErrZone},
			{"SOA 8\n@ NS ns\nb TXT x\nb 5 TXT y\nSOA 8", impl.Zone{}, impl.ErrMixed},
			{"SOA 8\n@ NS ns\nb CNAME a\nb TXT x\nSOA 8", impl.Zone{}, impl.ErrSingle},
			{"SOA 8\n@ NS ns\nb DNAME a\nx.b TXT x\nSOA 8", impl.Zone{}, impl.ErrBelow},
			{"SOA 8\n@ NS ns\n* NS a\nSOA 8", impl.Zone{}, impl.ErrWild},
			// A second SOA among the records.
			{"SOA 8\n@ NS ns\nSOA 7\nSOA 8", impl.Zone{}, impl.ErrSOA},
			{"SOA 8\n@ NS ns\nSOA 8\nSOA 8", zoneWith(t, 8, "@ NS ns\n"), impl.OK},
			{"SOA 8\nSOA 8\n@ NS ns\nSOA 8", zoneWith(t, 8, "@ NS ns\n"), impl.OK},
			{"SOA 8\nSOA 6\n@ NS ns\nSOA 8", impl.Zone{}, impl.ErrSOA},
			{"SOA 8\nSOA 6\nSOA 8\nSOA 8", impl.Zone{}, impl.ErrSOA},
		})
	}
	// An answer in changes to the question for all is none.
	checkInCases(t, z, askAll(inEx()), []inCase{
		{"SOA 8\nSOA 7\nSOA 8\nb TXT x\nSOA 8", impl.Zone{}, impl.ErrSOA},
		{"SOA 7\nSOA 7", impl.Zone{}, impl.ErrNS},
	})
}

func TestInAlone(t *testing.T) {
	z := zoneWith(t, 7, startZone)
	var cases, all []inCase
	for serial, isLater := range map[int64]bool{7: false, 6: false, 0: false, 4294967295: false, 2147483655: false, 8: true, 100: true, 2147483654: true} {
		c := inCase{fmt.Sprintf("SOA %d", serial), z, impl.OK}
		none := inCase{c.list, impl.Zone{}, impl.ErrSOA}
		all = append(all, none)
		if isLater {
			c = none
		}
		cases = append(cases, c)
	}
	checkInCases(t, z, askSome(inEx()), cases)
	checkInCases(t, z, askAll(inEx()), all)
	// Its other fields are not looked at, but for the owner.
	q := askSome(inEx())
	checkIn(t, "another SOA", z, q, 5, inOne(t, q, []impl.RR{inClass(inTime(soaOf(inEx(), 6), 4294967295), 3)}), z, impl.OK)
	for _, rr := range []impl.RR{
		soaOf(nm("EXAMPLE"), 7), soaOf(inEx("a"), 7), rrOf(inEx(), impl.TypeNS, inEx("ns")), rrOf(inEx(), impl.TypeSOA, ""),
		rrOf(inEx(), 65280, soaOf(inEx(), 7).Data),
	} {
		checkNoIn(t, "no SOA alone", z, q, 5, inOne(t, q, []impl.RR{rr}), impl.ErrSOA)
	}
	checkNoIn(t, "no record", z, q, 5, inOne(t, q, nil), impl.ErrSOA)
	checkNoIn(t, "no record in two messages", z, q, 5, bytesOf(t, sent(5, []impl.Question{q}), sent(5, nil)), impl.ErrSOA)
	// Messages without a record are fine, too.
	around := bytesOf(t, sent(5, []impl.Question{q}), sent(5, nil, soaIn(z)), sent(5, nil))
	checkIn(t, "messages without a record", z, q, 5, around, z, impl.OK)
}

func TestInChanges(t *testing.T) {
	z := zoneWith(t, 7, startZone)
	with := func(serial int64, more string) impl.Zone { return zoneWith(t, serial, startZone+more) }
	checkInCases(t, z, askSome(inEx()), []inCase{
		{"SOA 8\nSOA 7\nSOA 8\nnew A 192.0.2.1\nSOA 8", with(8, "new A 192.0.2.1"), impl.OK},
		{"SOA 8\nSOA 7\nSOA 8\nSOA 8", with(8, ""), impl.OK},
		{"SOA 8\nSOA 7\na A 192.0.2.2\na TXT x\nSOA 8\nSOA 8", zoneWith(t, 8, "@ NS ns\na A 192.0.2.1\nb.a MX 5 a\nc CNAME a\n"), impl.OK},
		{"SOA 8\nSOA 7\nc CNAME a\nSOA 8\nc A 192.0.2.1\nc TXT x\nSOA 8", zoneWith(t, 8, "@ NS ns\na A 192.0.2.1\na A 192.0.2.2\na TXT x\nb.a MX 5 a\nc A 192.0.2.1\nc TXT x"), impl.OK},
		{"SOA 9\nSOA 7\nSOA 8\nnew A 192.0.2.1\nSOA 8\nnew A 192.0.2.1\nSOA 9\nnew A 192.0.2.2\nSOA 9", with(9, "new A 192.0.2.2"), impl.OK},
		{"SOA 20\nSOA 7\nSOA 8\nSOA 8\nSOA 10\nSOA 10\nSOA 20\nSOA 20", with(20, ""), impl.OK},
		// No change at all.
		{"SOA 7\nSOA 7", z, impl.OK},
		// It ends within a change.
		{"SOA 8\nSOA 7\nSOA 8", impl.Zone{}, impl.ErrData},
		{"SOA 8\nSOA 7\na TXT x\nSOA 8", impl.Zone{}, impl.ErrData},
		{"SOA 9\nSOA 7\nSOA 8\nnew A 192.0.2.1\nSOA 8\nSOA 9", impl.Zone{}, impl.ErrData},
		{"SOA 9\nSOA 7\nSOA 8\nSOA 8\nnew A 192.0.2.1\nSOA 9", impl.Zone{}, impl.ErrData},
		{"SOA 7\nSOA 7\nSOA 7", impl.Zone{}, impl.ErrData},
		{"SOA 7\nSOA 7\n@ NS ns\nSOA 7", impl.Zone{}, impl.ErrData},
		// A change that can't be made.
		{"SOA 8\nSOA 7\nnew A 192.0.2.1\nSOA 8\nSOA 8", impl.Zone{}, impl.ErrData},
		{"SOA 8\nSOA 7\na TXT x\na TXT x\nSOA 8\nSOA 8", impl.Zone{}, impl.ErrData},
		{"SOA 8\nSOA 7\nSOA 8\nc A 192.0.2.1\nSOA 8", impl.Zone{}, impl.ErrSingle},
		{"SOA 8\nSOA 7\n@ NS ns\nSOA 8\nSOA 8", impl.Zone{}, impl.ErrNS},
		{"SOA 8\nSOA 7\nSOA 8\ncom. A 192.0.2.1\nSOA 8", impl.Zone{}, impl.ErrZone},
		{"SOA 7\nSOA 7\nSOA 7\nSOA 7", impl.Zone{}, impl.ErrSerial},
		{"SOA 6\nSOA 7\nSOA 6\nSOA 6", impl.Zone{}, impl.ErrSerial},
		{"SOA 9\nSOA 7\nSOA 8\nSOA 7\nSOA 9\nSOA 9", impl.Zone{}, impl.ErrSerial},
		{"SOA 9\nSOA 7\nSOA 8\nSOA 9\nSOA 10\nSOA 9", impl.Zone{}, impl.ErrSerial},
		// A zone between that would be none, though the last one would be.
		{"SOA 9\nSOA 7\nc CNAME a\nSOA 8\na CNAME c\nSOA 8\na CNAME c\nSOA 9\nSOA 9", impl.Zone{}, impl.ErrSingle},
		// It leads elsewhere.
		{"SOA 9\nSOA 7\nSOA 8\nSOA 9", impl.Zone{}, impl.ErrSOA},
		{"SOA 9\nSOA 7\nSOA 8\nnew A 192.0.2.1\nSOA 9", impl.Zone{}, impl.ErrSOA},
		{"SOA 8\nSOA 7\nSOA 8\nSOA 8\nSOA 9\nSOA 8", impl.Zone{}, impl.ErrSOA},
		// The first fault is told: where it ends ahead of what it does, that ahead of where it leads.
		{"SOA 9\nSOA 7\nnew A 192.0.2.1\nSOA 8\nSOA 8\nSOA 9", impl.Zone{}, impl.ErrData},
		{"SOA 9\nSOA 7\nSOA 6\nSOA 6\nSOA 9", impl.Zone{}, impl.ErrData},
		{"SOA 9\nSOA 7\nSOA 8\nc A 192.0.2.1\nSOA 8\nSOA 7\nSOA 9", impl.Zone{}, impl.ErrSingle},
	})
}

// What is the same is so byte for byte, in all fields.
func TestInSameSOA(t *testing.T) {
	z := zoneWith(t, 7, startZone)
	q := askSome(inEx())
	own, next := soaIn(z), soaIn(zoneWith(t, 8, startZone))
	ns := rrOf(inEx(), impl.TypeNS, inEx("ns"))
	others := map[string]func(rr impl.RR) impl.RR{
		"an owner's letters": func(rr impl.RR) impl.RR { rr.Owner = nm("EXAMPLE"); return rr },
		"a time":             func(rr impl.RR) impl.RR { return inTime(rr, 5) },
		"a class":            func(rr impl.RR) impl.RR { return inClass(rr, 3) },
		"a datum's letters":  func(rr impl.RR) impl.RR { rr.Data = "\x02NS" + rr.Data[3:]; return rr },
		"a number":           func(rr impl.RR) impl.RR { rr.Data = rr.Data[:len(rr.Data)-1] + "\x00"; return rr },
	}
	for tell, other := range others {
		last := inOne(t, q, []impl.RR{next, ns, other(next)})
		checkNoIn(t, tell+" at the end", z, q, 5, last, impl.ErrSOA)
		checkNoIn(t, tell+" at the end of changes", z, q, 5, inOne(t, q, []impl.RR{next, own, next, other(next)}), impl.ErrSOA)
		// A second record that is not the zone's own SOA makes it a whole zone, in which another SOA may not be.
		second := inOne(t, q, []impl.RR{next, other(own), next, next})
		_, code := inOf(z, q, 5, second)
		if code == impl.OK || code == impl.ErrData {
			t.Errorf("%s: %d", tell, code)
		}
		checkNoIn(t, tell+" at the second place", z, q, 5, second, code)
		// A New that is the last one but for that: the zone's SOA is not the first record then.
		if tell != "a class" {
			checkNoIn(t, tell+" of New", z, q, 5, inOne(t, q, []impl.RR{next, own, other(next), next}), impl.ErrSOA)
		}
		// An Old that is not the one behind which it comes.
		twice := inOne(t, q, []impl.RR{soaIn(zoneWith(t, 9, startZone)), own, next, other(next), soaIn(zoneWith(t, 9, startZone)), soaIn(zoneWith(t, 9, startZone))})
		checkNoIn(t, tell+" of an Old", z, q, 5, twice, impl.ErrSerial)
	}
	// The first record's class and time are held to nothing of their own.
	odd := inTime(next, 5)
	want := zoneWith(t, 8, startZone)
	at := slices.IndexFunc(want.Sets, func(s impl.Set) bool { return s.Type == impl.TypeSOA })
	want.Sets[at].TTL = 5
	checkIn(t, "a new time", z, q, 5, inOne(t, q, []impl.RR{odd, own, odd, odd}), want, impl.OK)
	odd = inClass(next, 3)
	checkNoIn(t, "another class by changes", z, q, 5, inOne(t, q, []impl.RR{odd, own, odd, odd}), impl.ErrClass)
	checkNoIn(t, "another class in whole", z, q, 5, inOne(t, q, []impl.RR{odd, ns, odd}), impl.ErrClass)
}

func TestInFirstRecord(t *testing.T) {
	z := zoneWith(t, 7, startZone)
	soa := soaIn(zoneWith(t, 8, startZone))
	ns := rrOf(inEx(), impl.TypeNS, inEx("ns"))
	for _, q := range []impl.Question{askAll(inEx()), askSome(inEx())} {
		for tell, list := range map[string][]impl.RR{
			"no SOA":             {ns, soa, ns},
			"an owner's letters": {soaOf(nm("Example"), 8), ns, soaOf(nm("Example"), 8)},
			"another owner":      {soaOf(inEx("a"), 8), ns, soaOf(inEx("a"), 8)},
			"no data":            {rrOf(inEx(), 6, ""), ns, rrOf(inEx(), 6, "")},
			"no data, alone":     {rrOf(inEx(), 6, "")},
			"no end":             {soa, ns},
			"an end that is NS":  {soa, ns, ns},
			"another end":        {soa, ns, soaIn(z)},
			"an end too early":   {soa, ns, soa, ns},
		} {
			checkNoIn(t, tell, z, q, 5, inOne(t, q, list), impl.ErrSOA)
		}
		// What is wrong with the first record is told ahead of what is wrong behind it.
		ill := []impl.RR{soa, rrOf(nm("com"), 1, "abcd"), ns}
		checkNoIn(t, "no end, ill records", z, q, 5, inOne(t, q, ill), impl.ErrSOA)
	}
}

// A zone whose SOA has another owner than the apex, by its letters, can't be handed on: the document wants both the same.
func TestInOwnerLetters(t *testing.T) {
	z := mustBuild(t, begun(nm("EXAMPLE")), inEx())
	for _, q := range []impl.Question{askAll(inEx()), askSome(inEx())} {
		list, code := impl.TransferOut(z, nil, q.Type, 0)
		if code != impl.OK || list[0].Owner != nm("EXAMPLE") {
			t.Errorf("TransferOut = %s, %d", tellRecords(list), code)
		}
		checkNoIn(t, "in other letters", z, q, 5, inOne(t, q, list), impl.ErrSOA)
	}
	q := askAll(nm("EXAMPLE"))
	checkNoIn(t, "a question in other letters", z, q, 5, inOne(t, q, begun(nm("EXAMPLE"))), impl.ErrForm)
}

// wrongMessages are the messages of a transfer, of which one is not as it must be.
func wrongMessages(t *testing.T, q impl.Question, list []impl.RR) map[string][][]byte {
	t.Helper()
	ns := rrOf(inEx(), impl.TypeNS, inEx("ns"))
	out := map[string][][]byte{}
	for tell, do := range map[string]func(m *impl.Message){
		"another ID":      func(m *impl.Message) { m.Head.ID = 6 },
		"no QR":           func(m *impl.Message) { m.Head.QR = false },
		"no AA":           func(m *impl.Message) { m.Head.AA = false },
		"TC":              func(m *impl.Message) { m.Head.TC = true },
		"Op 1":            func(m *impl.Message) { m.Head.Op = 1 },
		"Op 15":           func(m *impl.Message) { m.Head.Op = 15 },
		"Code 1":          func(m *impl.Message) { m.Head.Code = 1 },
		"Code 8":          func(m *impl.Message) { m.Head.Code = 8 },
		"authority":       func(m *impl.Message) { m.Authority = []impl.RR{ns} },
		"extra":           func(m *impl.Message) { m.Extra = []impl.RR{ns} },
		"two questions":   func(m *impl.Message) { m.Questions = []impl.Question{q, q} },
		"another name":    func(m *impl.Message) { m.Questions = []impl.Question{{Name: nm("com"), Type: q.Type, Class: 1}} },
		"other letters":   func(m *impl.Message) { m.Questions = []impl.Question{{Name: nm("EXAMPLE"), Type: q.Type, Class: 1}} },
		"another type":    func(m *impl.Message) { m.Questions = []impl.Question{{Name: q.Name, Type: 503 - q.Type, Class: 1}} },
		"another class":   func(m *impl.Message) { m.Questions = []impl.Question{{Name: q.Name, Type: q.Type, Class: 3}} },
		"a question turn": func(m *impl.Message) { m.Questions = [][]impl.Question{{q}, nil}[len(m.Questions)] },
	} {
		for _, at := range []int{0, 1, 2} {
			msgs := []impl.Message{sent(5, []impl.Question{q}, list[0]), sent(5, nil, list[1:2]...), sent(5, nil, list[2:]...)}
			do(&msgs[at])
			out[fmt.Sprintf("%s in message %d", tell, at)] = bytesOf(t, msgs...)
		}
	}
	for tell, do := range map[string]func(b []byte) []byte{
		"no byte":          func(b []byte) []byte { return nil },
		"eleven bytes":     func(b []byte) []byte { return b[:11] },
		"a byte too few":   func(b []byte) []byte { return b[:len(b)-1] },
		"a byte too many":  func(b []byte) []byte { return append(b, 0) },
		"a count too many": func(b []byte) []byte { b[7]++; return b },
		"too many bytes":   func(b []byte) []byte { return append(b, make([]byte, 65536)...) },
		"another's end":    func(b []byte) []byte { return append(b, b...) },
	} {
		for _, at := range []int{0, 1, 2} {
			msgs := bytesOf(t, sent(5, []impl.Question{q}, list[0]), sent(5, nil, list[1:2]...), sent(5, nil, list[2:]...))
			msgs[at] = do(msgs[at])
			out[fmt.Sprintf("%s in message %d", tell, at)] = msgs
		}
	}
	return out
}

func TestInMessages(t *testing.T) {
	z := zoneWith(t, 7, startZone)
	for _, q := range []impl.Question{askAll(inEx()), askSome(inEx())} {
		list := transferred(t, "SOA 8\n"+startZone+"SOA 8")
		for tell, msgs := range wrongMessages(t, q, list) {
			checkNoIn(t, tell, z, q, 5, msgs, impl.ErrData)
		}
		// Of what is ill in the messages it is told ahead of what is ill in the records.
		for tell, msgs := range wrongMessages(t, q, list[1:]) {
			checkNoIn(t, tell+" with no SOA", z, q, 5, msgs, impl.ErrData)
		}
		checkNoIn(t, "no SOA", z, q, 5, inEach(t, q, list[1:], 1), impl.ErrSOA)
		// The other bits are not looked at.
		m := sent(5, []impl.Question{q}, list...)
		m.Head.RD, m.Head.RA, m.Head.Z, m.Head.AD, m.Head.CD = true, true, true, true, true
		checkIn(t, "other bits", z, q, 5, bytesOf(t, m), zoneWith(t, 8, startZone), impl.OK)
		// The class of the question is, but only against the message's.
		ch := q
		ch.Class = 3
		checkIn(t, "a class", z, ch, 5, inOne(t, ch, list), zoneWith(t, 8, startZone), impl.OK)
		checkNoIn(t, "a class that is not the message's", z, ch, 5, inOne(t, q, list), impl.ErrData)
		ch.Class = 65537
		checkNoIn(t, "a class that no message has", z, ch, 5, inOne(t, q, list), impl.ErrData)
		for _, id := range []int64{-1, 0, 4, 65535, 65536, 65541, -65531} {
			checkNoIn(t, "another ID", z, q, id, inOne(t, q, list), impl.ErrData)
		}
		for _, id := range []int64{0, 65535} {
			checkIn(t, "an ID", z, q, id, bytesOf(t, sent(id, []impl.Question{q}, list...)), zoneWith(t, 8, startZone), impl.OK)
		}
	}
}

func TestInNotValid(t *testing.T) {
	z := zoneWith(t, 7, startZone)
	list := transferred(t, "SOA 8\n"+startZone+"SOA 8")
	for _, q := range []impl.Question{askAll(inEx()), askSome(inEx())} {
		msgs := inOne(t, q, list)
		for tell, ill := range noZones(z) {
			checkNoIn(t, tell, ill, q, 5, msgs, impl.ErrForm)
			checkNoIn(t, tell+" and no messages", ill, q, 5, nil, impl.ErrForm)
		}
		checkNoIn(t, "no messages", z, q, 5, nil, impl.ErrForm)
		checkNoIn(t, "no messages at all", z, q, 5, [][]byte{}, impl.ErrForm)
		for _, rtype := range append(noTypes(), 0, 1, 6, 250, 253, 255) {
			ill := impl.Question{Name: inEx(), Type: rtype, Class: 1}
			checkNoIn(t, "another type", z, ill, 5, msgs, impl.ErrForm)
		}
		for _, name := range append(noNames(), root, nm("com"), inEx("a"), nm("EXAMPLE")) {
			ill := impl.Question{Name: name, Type: q.Type, Class: 1}
			checkNoIn(t, "another name", z, ill, 5, msgs, impl.ErrForm)
		}
		checkNoIn(t, "another type and ill messages", z, impl.Question{Name: inEx(), Type: 1}, 5, [][]byte{nil}, impl.ErrForm)
	}
}

func TestInMostMessages(t *testing.T) {
	z := zoneWith(t, 7, startZone)
	list := transferred(t, "SOA 8\n"+startZone+"SOA 8")
	for _, q := range []impl.Question{askAll(inEx()), askSome(inEx())} {
		msgs := inEach(t, q, list, 1)
		empty := bytesOf(t, sent(5, nil))[0]
		for len(msgs) < 3000 {
			msgs = slices.Insert(msgs, 1+len(msgs)%7, empty)
		}
		checkIn(t, "3000 messages", z, q, 5, msgs, zoneWith(t, 8, startZone), impl.OK)
		checkNoIn(t, "one more", z, q, 5, append(msgs, empty), impl.ErrForm)
		checkNoIn(t, "one more that is ill", z, q, 5, append(msgs, nil), impl.ErrForm)
		msgs[2999] = nil
		checkNoIn(t, "the last ill", z, q, 5, msgs, impl.ErrData)
	}
}

func TestInMostRecords(t *testing.T) {
	z := mustBuild(t, begun(inEx()), inEx())
	list := []impl.RR{soaOf(inEx(), 2), rrOf(inEx(), impl.TypeNS, nm("ns"))}
	for n := range 498 {
		list = append(list, rrOf(inEx("h"+itoa(n)), impl.TypeA, be(int64(n), 4)))
	}
	full := mustBuild(t, list, inEx())
	for _, q := range []impl.Question{askAll(inEx()), askSome(inEx())} {
		checkIn(t, "MaxRecords records", z, q, 5, inEach(t, q, append(slices.Clone(list), list[0]), 100), full, impl.OK)
		checkNoIn(t, "one more", z, q, 5, inEach(t, q, append(append(slices.Clone(list), list[9]), list[0]), 100), impl.ErrCount)
	}
	// A change may drop and add as many as a zone can have, but no more.
	q := askSome(inEx())
	change := func(del, add []impl.RR) []impl.RR {
		return slices.Concat([]impl.RR{soaOf(inEx(), 3), list[0]}, del, []impl.RR{soaOf(inEx(), 3)}, add, []impl.RR{soaOf(inEx(), 3)})
	}
	want := mustBuild(t, append([]impl.RR{soaOf(inEx(), 3)}, list[1:]...), inEx())
	checkIn(t, "all out and in", full, q, 5, inEach(t, q, change(list[1:], list[1:]), 100), want, impl.OK)
	checkNoIn(t, "501 dropped", full, q, 5, inEach(t, q, change(append(list[1:], list[1], list[1]), nil), 100), impl.ErrForm)
	checkNoIn(t, "500 dropped", full, q, 5, inEach(t, q, change(append(list[1:], list[1]), nil), 100), impl.ErrData)
	checkNoIn(t, "501 added", full, q, 5, inEach(t, q, change(nil, append(list[1:], list[1], list[1])), 100), impl.ErrForm)
	checkNoIn(t, "500 added", full, q, 5, inEach(t, q, change(nil, append(list[1:], list[1])), 100), impl.ErrCount)
}

// spoilTransfer spoils the records of a transfer to a zone.
func spoilTransfer(r *rand.Rand, z impl.Zone, list []impl.RR) []impl.RR {
	list = slices.Clone(list)
	at := r.Intn(len(list))
	switch r.Intn(6) {
	case 0:
		return slices.Delete(list, at, at+1)
	case 1:
		return slices.Insert(list, at, list[r.Intn(len(list))])
	case 2:
		return slices.Insert(list, at, soaIn(z))
	case 3:
		return slices.Insert(list, at, knownIn(r, z))
	case 4:
		list[at] = inLetters(r, list[at])
	case 5:
		other := r.Intn(len(list))
		list[at], list[other] = list[other], list[at]
	}
	return list
}

func TestInAnyTransfer(t *testing.T) {
	r := rand.New(rand.NewSource(136))
	met := map[int64]int{}
	for n := range 2500 {
		zones, history := historyOf(t, r, apexes()[n%3], n%4, 4)
		from := zones[r.Intn(len(zones))]
		q := []impl.Question{askAll(from.Apex), askSome(from.Apex), askSome(from.Apex)}[n%3]
		list, _ := outOf(zones[len(zones)-1], history, q.Type, serialOf(from))
		for range r.Intn(3) {
			if len(list) > 0 {
				list = spoilTransfer(r, from, list)
			}
		}
		msgs := inEach(t, q, list, 1+r.Intn(9))
		if n%10 == 0 && len(msgs) > 0 {
			at := r.Intn(len(msgs))
			msgs[at] = bent(r, msgs[at])
		}
		if n%50 == 0 {
			from = cloneZone(from)
			bendZone(r, &from)
		}
		want, code := inOf(from, q, 5, msgs)
		checkIn(t, tellZone(from)+" and "+tellRecords(list), from, q, 5, msgs, want, code)
		met[code]++
	}
	for code, least := range map[int64]int{impl.OK: 800, impl.ErrForm: 20, impl.ErrData: 150, impl.ErrSOA: 200, impl.ErrSerial: 20} {
		if met[code] < least {
			t.Errorf("the codes met are %v", met)
		}
	}
}
