package tests

import (
	"fmt"
	"slices"
	"strings"
	"testing"

	"loop.example/s01858/impl"
)

// reloadText is the text of a small zone with a serial.
func reloadText(serial int64, more string) string {
	return "$TTL 3600\n" + soaText(serial) + "@ NS ns\n" + more
}

func TestRunServerReload(t *testing.T) {
	zones, history := fourZones(t)
	texts := []string{"a A 192.0.2.1", "a A 192.0.2.1\nb TXT x", "a A 192.0.2.2\na A 192.0.2.3\nb TXT x", "a A 192.0.2.2\na A 192.0.2.3\nb TXT x"}
	start := script{text: reloadText(7, texts[0]), origin: inEx(), now: 5}
	for i, serial := range []int64{7, 8, 10, 11} {
		texts[i] = reloadText(serial, texts[i])
	}
	at := func(n int) impl.Server { return impl.Server{Zone: zones[n], History: history[:n]} }
	ask := asked(asking(inEx("b"), impl.TypeTXT, 1))
	found := func(n int) string {
		reply, _, _ := respondOf(at(n), ask, false, 5)
		return string(reply.Messages[0])
	}
	ixfr := asksFrom(inEx(), soaIn(zones[0]))
	for _, c := range []struct {
		tell   string
		events []impl.Event
		want   []impl.Out
		next   impl.Server
	}{
		{"one", []impl.Event{reloading(texts[1])}, []impl.Out{outReloaded(0)}, at(1)},
		{"three", []impl.Event{reloading(texts[1]), reloading(texts[2]), reloading(texts[3])}, []impl.Out{outReloaded(0), outReloaded(1), outReloaded(2)}, at(3)},
		{"an origin of its own", []impl.Event{reloading("$ORIGIN EXAMPLE.\n" + strings.ReplaceAll(texts[1], "@", "example."))}, []impl.Out{outReloaded(0)},
			func() impl.Server {
				z := impl.LoadZone("$ORIGIN EXAMPLE.\n"+strings.ReplaceAll(texts[1], "@", "example."), "").Zone
				c, _ := diffOf(zones[0], z)
				return impl.Server{Zone: z, History: []impl.Change{c}}
			}()},
		{"other fields", []impl.Event{{Kind: 6, Conn: 3, N: 9, From: "a", Bytes: []byte(texts[1])}}, []impl.Out{outReloaded(0)}, at(1)},
		{"the same", []impl.Event{reloading(texts[0])}, []impl.Out{outFailed(0, impl.ErrSerial)}, at(0)},
		{"twice", []impl.Event{reloading(texts[1]), reloading(texts[1])}, []impl.Out{outReloaded(0), outFailed(1, impl.ErrSerial)}, at(1)},
		{"back", []impl.Event{reloading(texts[1]), reloading(texts[0]), reloading(texts[2])}, []impl.Out{outReloaded(0), outFailed(1, impl.ErrSerial), outReloaded(2)}, at(2)},
		{"between queries", []impl.Event{datagram("a", ask), reloading(texts[1]), datagram("b", ask), openConn(), chunk(1, stream(ask)), reloading("("), datagram("c", ask)},
			[]impl.Out{outDatagram(0, "a", found(0)), outReloaded(1), outDatagram(2, "b", found(1)), outOpened(3, 1), outBytes(4, 1, found(1)), outFailed(5, impl.ErrParen), outDatagram(6, "c", found(1))}, at(1)},
		{"then handed on", []impl.Event{openConn(), reloading(texts[1]), chunk(1, stream(asked(ixfr))), reloading(texts[2]), chunk(1, stream(asked(ixfr)))},
			[]impl.Out{outOpened(0, 1), outReloaded(1), outBytes(2, 1, asked(sent(0x1234, ixfr.Questions, soaIn(zones[1]), soaIn(zones[0]), soaIn(zones[1]), history[0].Add[0], soaIn(zones[1])))),
				outReloaded(3), outBytes(4, 1, asked(sent(0x1234, ixfr.Questions, soaIn(zones[2]), soaIn(zones[0]), soaIn(zones[1]), history[0].Add[0],
					soaIn(zones[1]), history[1].Del[0], soaIn(zones[2]), history[1].Add[0], history[1].Add[1], soaIn(zones[2]))))}, at(2)},
	} {
		run := start
		run.events = c.events
		checkScript(t, c.tell, run, c.want, c.next, impl.OK)
	}
}

// A reload that fails leaves the server as it is; its code is told, the first if there are several.
func TestRunServerReloadFails(t *testing.T) {
	z := zoneWith(t, 7, "@ NS ns\na A 192.0.2.1")
	start := script{text: reloadText(7, "a A 192.0.2.1"), origin: inEx(), now: 5}
	good := reloadText(8, "")
	for _, c := range []struct {
		tell, text string
		code       int64
	}{
		{"no text", "", impl.ErrSOA}, {"no SOA", "$TTL 5\n@ NS ns\n", impl.ErrSOA}, {"no NS", "$TTL 5\n" + soaText(8), impl.ErrNS},
		{"a quote", good + "\"", impl.ErrQuote}, {"a word", good + "a A", impl.ErrWord}, {"data", good + "a A 1.2.3", impl.ErrData}, {"a directive", good + "$X y", impl.ErrDirective},
		{"too long", good + strings.Repeat(";", 40001-len(good)), impl.ErrSize}, {"outside", good + "x. A 1.2.3.4", impl.ErrZone}, {"two SOAs", good + soaText(9), impl.ErrSOA},
		{"beside a CNAME", good + "a CNAME b\na A 1.2.3.4", impl.ErrSingle}, {"unlike times", good + "a A 1.2.3.4\na 5 A 1.2.3.5", impl.ErrMixed},
		{"below a DNAME", good + "a DNAME b\nc.a A 1.2.3.4", impl.ErrBelow}, {"a wildcard", good + "* NS b", impl.ErrWild},
		{"another apex", "$ORIGIN other.\n" + good, impl.ErrZone}, {"an apex below", "$ORIGIN a.example.\n" + good, impl.ErrZone}, {"the root", "$ORIGIN .\n" + good, impl.ErrZone},
		{"other letters", "$ORIGIN Example.\n" + good, impl.ErrZone}, {"capitals", "$ORIGIN EXAMPLE.\n" + good, impl.ErrZone},
		{"another apex, and the same serial", "$ORIGIN other.\n" + reloadText(7, ""), impl.ErrZone}, {"other letters, and ahead", "$ORIGIN exAmple.\n" + reloadText(6, ""), impl.ErrZone},
		{"another apex, and no zone", "$ORIGIN other.\n$TTL 5\n" + soaText(8), impl.ErrNS}, {"the same serial, and no zone", "$TTL 5\n" + soaText(7), impl.ErrNS},
		{"the same serial, and data", reloadText(7, "a A 1.2.3"), impl.ErrData},
		{"the same serial", reloadText(7, "b A 192.0.2.1"), impl.ErrSerial}, {"ahead", reloadText(6, ""), impl.ErrSerial}, {"far ahead", reloadText(0, ""), impl.ErrSerial},
		{"half the circle", reloadText(7+1<<31, ""), impl.ErrSerial}, {"more than half", reloadText(8+1<<31, ""), impl.ErrSerial}, {"ahead round the circle", reloadText(1<<32-1, ""), impl.ErrSerial},
	} {
		run := start
		run.events = []impl.Event{reloading(c.text), datagram("a", aQuery("a"))}
		reply := asked(saying(replyTo(asking(inEx("a"), impl.TypeA, 1), 0), []impl.RR{rrOf(inEx("a"), impl.TypeA, "\xc0\x00\x02\x01")}, nil, nil))
		checkScript(t, c.tell, run, []impl.Out{outFailed(0, c.code), outDatagram(1, "a", reply)}, impl.Server{Zone: z}, impl.OK)
	}
	start.events = []impl.Event{reloading(good + strings.Repeat(";", 40000-len(good)))}
	next := zoneWith(t, 8, "@ NS ns")
	c := impl.Change{Old: soaIn(z), New: soaIn(next), Del: records(t, "a A 192.0.2.1")}
	checkScript(t, "as long as may be", start, []impl.Out{outReloaded(0)}, impl.Server{Zone: next, History: []impl.Change{c}}, impl.OK)
}

// Which serials come behind.
func TestRunServerReloadSerials(t *testing.T) {
	all := []int64{0, 1, 2, 7, 1<<31 - 1, 1 << 31, 1<<31 + 1, 1<<32 - 2, 1<<32 - 1}
	for _, from := range all {
		for _, to := range all {
			z, next := zoneWith(t, from, "@ NS ns"), zoneWith(t, to, "@ NS ns")
			run := script{text: reloadText(from, ""), origin: inEx(), events: []impl.Event{reloading(reloadText(to, ""))}}
			if ahead := (to - from + 1<<32) % (1 << 32); ahead > 0 && ahead < 1<<31 {
				c := impl.Change{Old: soaIn(z), New: soaIn(next)}
				checkScript(t, fmt.Sprint(from, to), run, []impl.Out{outReloaded(0)}, impl.Server{Zone: next, History: []impl.Change{c}}, impl.OK)
			} else {
				checkScript(t, fmt.Sprint(from, to), run, []impl.Out{outFailed(0, impl.ErrSerial)}, impl.Server{Zone: z}, impl.OK)
			}
		}
	}
}

// As many changes as are kept, and one more: the eldest falls out, whether a reload or a message made it.
func TestRunServerHistory(t *testing.T) {
	s := impl.Server{Zone: docZone(t)}
	run := script{text: exampleZone, now: 5}
	var want []impl.Out
	for n := range int64(43) {
		if n%3 == 0 {
			text := strings.Replace(exampleZone, "admin 7", fmt.Sprintf("admin %d", 8+n), 1) + "r" + itoa(int(n)) + " A 192.0.2.1\n"
			z := zoneText(t, text)
			c, code := diffOf(s.Zone, z)
			if code != impl.OK {
				t.Fatalf("a change = %d", code)
			}
			s = serverBehind(s, z, c)
			run.events, want = append(run.events, reloading(text)), append(want, outReloaded(n))
		} else {
			ask, reply, next := changeOf(t, s, "u"+itoa(int(n)))
			s = next
			run.events, want = append(run.events, datagram("a", ask)), append(want, outDatagram(n, "a", reply))
		}
		all := len(s.History)
		s.History = slices.Clone(s.History[max(0, all-40):])
		checkScript(t, fmt.Sprintf("%d changes", n+1), run, want, s, impl.OK)
		if len(s.History) != int(min(40, n+1)) || serialOf(s.Zone) != 8+n {
			t.Fatalf("%d changes: %s", n+1, tellServer(s))
		}
	}
}
