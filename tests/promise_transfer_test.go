package tests

import (
	"math/rand"
	"runtime"
	"slices"
	"strings"
	"sync"
	"testing"
	"time"

	"loop.example/s01858/impl"
)

// transferArgs is what the functions of chapter 13 are called with.
type transferArgs struct {
	z, other          impl.Zone
	change            impl.Change
	history           []impl.Change
	q                 impl.Question
	id, serial, limit int64
	list              []impl.RR
	msgs              [][]byte
}

// callTransfer calls all functions of chapter 13: with a code there is nothing beside.
func callTransfer(t *testing.T, a transferArgs) {
	t.Helper()
	if c, code := impl.DiffZones(a.z, a.other); code != impl.OK && !sameChange(c, impl.Change{}) {
		t.Errorf("DiffZones = %s beside %d", tellChange(c), code)
	}
	if z, code := impl.PatchZone(a.z, a.change); code != impl.OK && !sameZone(z, impl.Zone{}) {
		t.Errorf("PatchZone = %s beside %d", tellZone(z), code)
	}
	if list, code := impl.TransferOut(a.z, a.history, a.q.Type, a.serial); code != impl.OK && len(list) > 0 {
		t.Errorf("TransferOut = %s beside %d", tellRecords(list), code)
	}
	if msgs, code := impl.SplitTransfer(a.id, a.q, a.list, a.limit); code != impl.OK && len(msgs) > 0 {
		t.Errorf("SplitTransfer = %d messages beside %d", len(msgs), code)
	}
	if z, code := impl.TransferIn(a.z, a.q, a.id, a.msgs); code != impl.OK && !sameZone(z, impl.Zone{}) {
		t.Errorf("TransferIn = %s beside %d", tellZone(z), code)
	}
}

// P1: no call panics, and every call ends, whatever it is given.
func TestP1Transfer(t *testing.T) {
	r := rand.New(rand.NewSource(137))
	names := append(noNames(), someNames()...)
	odd := func() int64 { return oddNumbers()[r.Intn(len(oddNumbers()))] }
	anything := func() impl.RR {
		return impl.RR{Owner: names[r.Intn(len(names))], Type: []int64{6, 6, odd()}[r.Intn(3)], Class: odd(), TTL: odd(), Data: []string{soaOf(root, odd()).Data, names[r.Intn(len(names))]}[r.Intn(2)]}
	}
	for n := range 2000 {
		zones, history := historyOf(t, r, apexes()[n%3], n%4, 3)
		from, to := cloneZone(zones[0]), cloneZone(zones[len(zones)-1])
		a := transferArgs{z: to, other: from, history: history, q: askSome(to.Apex), id: 5, limit: 512, serial: serialOf(from)}
		if len(history) > 0 {
			a.change = cloneChange(history[0])
		}
		list, _ := impl.TransferOut(to, history, impl.TypeIXFR, serialOf(from))
		a.list, a.msgs = list, inEach(t, a.q, list, 1+r.Intn(5))
		if n%2 == 0 {
			a.z, a.other = from, to
		}
		if n%10 == 0 {
			bendZone(r, &a.z)
		}
		for range r.Intn(4) {
			switch r.Intn(8) {
			case 0:
				a.z.Apex = names[r.Intn(len(names))]
			case 1:
				a.other.Apex = a.z.Apex
			case 2:
				a.change.Del = append(a.change.Del, anything())
			case 3:
				a.change.Add, a.change.New = append(a.change.Add, anything()), anything()
			case 4:
				a.history = append(slices.Clone(a.history), a.change, impl.Change{})
			case 5:
				a.q = impl.Question{Name: names[r.Intn(len(names))], Type: odd(), Class: odd()}
			case 6:
				a.id, a.limit, a.serial = odd(), odd(), odd()
			case 7:
				a.list = append(slices.Clone(a.list), anything())
			}
		}
		if n%3 == 0 {
			at := r.Intn(len(a.msgs))
			a.msgs[at] = bent(r, a.msgs[at])
		}
		callTransfer(t, a)
	}
	callTransfer(t, transferArgs{})
	callTransfer(t, transferArgs{q: askAll(""), limit: 512, msgs: [][]byte{nil}})
}

// P1: calls with much end, too.
func TestP1TransferMuch(t *testing.T) {
	z := mustBuild(t, begun(root), root)
	much := make([]impl.RR, 3000000)
	callTransfer(t, transferArgs{z: impl.Zone{Apex: root, Sets: make([]impl.Set, 3000000)}, other: z, list: much, limit: 512})
	callTransfer(t, transferArgs{
		z: z, other: impl.Zone{Apex: root, Sets: make([]impl.Set, 3000000)}, change: impl.Change{Old: soaIn(z), New: soaOf(root, 2), Del: much, Add: much},
		history: make([]impl.Change, 1000000), q: askSome(root), list: much, limit: 65535, msgs: make([][]byte, 3000000),
	})
	// A full zone with long names and long data, to be dropped and added.
	list := begun(root)
	for n := range 498 {
		owner := nm(append([]string{itoa(n)}, times(120, "t")...)...)
		list = append(list, rrOf(owner, 65280, strings.Repeat("x", 60000)+itoa(n)))
	}
	full := mustBuild(t, list, root)
	list[0] = soaOf(root, 2)
	for i := range list[2:] {
		list[2+i].TTL = 5
	}
	next := mustBuild(t, list, root)
	c, code := impl.DiffZones(full, next)
	if code != impl.OK || len(c.Del) != 498 || len(c.Add) != 498 {
		t.Fatalf("DiffZones = %d and %d records, %d", len(c.Del), len(c.Add), code)
	}
	out, code := impl.TransferOut(next, []impl.Change{c}, impl.TypeIXFR, 1)
	if code != impl.OK || len(out) != 4+2*498 {
		t.Fatalf("TransferOut = %d records, %d", len(out), code)
	}
	msgs, code := impl.SplitTransfer(1, askSome(root), out, 65535)
	if code != impl.OK {
		t.Fatalf("SplitTransfer = %d", code)
	}
	got, code := impl.TransferIn(full, askSome(root), 1, msgs)
	if code != impl.OK || !sameZone(got, next) {
		t.Errorf("TransferIn = %s, %d", tellZone(got), code)
	}
}

// P1: very many changes in one transfer come to an end.
func TestP1TransferManyChanges(t *testing.T) {
	z := mustBuild(t, []impl.RR{soaOf(root, 0), rrOf(root, impl.TypeNS, nm("ns"))}, root)
	const changes = 30000
	list := []impl.RR{soaOf(root, changes)}
	for n := range int64(changes) {
		list = append(list, soaOf(root, n), soaOf(root, n+1))
	}
	q := askSome(root)
	got, code := impl.TransferIn(z, q, 5, inEach(t, q, append(list, list[0]), 399))
	if code != impl.OK || serialOf(got) != changes || len(got.Sets) != 2 {
		t.Errorf("TransferIn = %s, %d", tellZone(got), code)
	}
}

// P1: all goroutines have ended when the call answers, whatever it answers.
func TestP1TransferGoroutines(t *testing.T) {
	before := runtime.NumGoroutine()
	small, great := tiny(3000), append([]impl.RR{filler(600)}, tiny(2999)...)
	for n := range 200 {
		list := [][]impl.RR{small, great, small[:1], nil}[n%4]
		impl.SplitTransfer(1, askAll(inEx()), list, 512)
	}
	// Behind its last record a sender may be on its way out still, for a moment.
	for range 100 {
		if runtime.NumGoroutine() <= before {
			return
		}
		time.Sleep(10 * time.Millisecond)
	}
	t.Errorf("%d goroutines are left, there were %d", runtime.NumGoroutine(), before)
}

// P1: an answer is the same however goroutines run: many calls at the same time on the same arguments.
func TestP1TransferAtOnce(t *testing.T) {
	r := rand.New(rand.NewSource(138))
	var list []impl.RR
	for range 300 {
		list = append(list, someRecord(r))
	}
	want, code := impl.SplitTransfer(1, askAll(inEx()), list, 1000)
	if code != impl.OK || len(want) < 3 {
		t.Fatalf("SplitTransfer = %d messages, %d", len(want), code)
	}
	var group sync.WaitGroup
	for range 50 {
		group.Go(func() {
			got, code := impl.SplitTransfer(1, askAll(inEx()), list, 1000)
			if code != impl.OK || !slices.EqualFunc(got, want, slices.Equal) {
				t.Errorf("SplitTransfer = %d messages, %d", len(got), code)
			}
		})
	}
	group.Wait()
}

// behindIt is a list that has something behind its end, which no call may write over.
func behindIt(list []impl.RR) []impl.RR {
	out := append(slices.Clone(list), impl.RR{Owner: "left"})
	return out[:len(list)]
}

// isLeft tells whether what was behind the end of a list is there still.
func isLeft(list []impl.RR) bool { return list[:len(list)+1][len(list)].Owner == "left" }

// P1: nothing is written into an argument, nor behind it; an answer is new memory.
func TestP1TransferMemory(t *testing.T) {
	r := rand.New(rand.NewSource(139))
	for n := range 400 {
		zones, history := historyOf(t, r, apexes()[n%3], 1+n%3, 5)
		old, new := cloneZone(zones[0]), cloneZone(zones[1])
		last := cloneZone(zones[len(zones)-1])
		change := cloneChange(history[0])
		change.Del, change.Add = behindIt(change.Del), behindIt(change.Add)
		var told []impl.Change
		for _, c := range history {
			told = append(told, impl.Change{Old: c.Old, New: c.New, Del: behindIt(c.Del), Add: behindIt(c.Add)})
		}
		q := []impl.Question{askAll(old.Apex), askSome(old.Apex)}[n%2]
		diff, _ := impl.DiffZones(old, new)
		patched, _ := impl.PatchZone(old, change)
		out, _ := impl.TransferOut(last, told, q.Type, serialOf(old))
		list := behindIt(out)
		msgs, _ := impl.SplitTransfer(5, q, list, 512)
		taken, code := impl.TransferIn(old, q, 5, msgs)
		if code != impl.OK && serialOf(old) != serialOf(last) && impl.SerialLess(serialOf(old), serialOf(last)) {
			t.Fatalf("TransferIn = %d", code)
		}
		same, _ := impl.TransferIn(old, askSome(old.Apex), 5, inOne(t, askSome(old.Apex), []impl.RR{soaIn(old)}))
		if !sameZone(old, zones[0]) || !sameZone(new, zones[1]) || !sameZone(last, zones[len(zones)-1]) || !sameChange(change, history[0]) ||
			!slices.EqualFunc(told, history, sameChange) || !slices.Equal(list, out) {
			t.Fatalf("a call wrote into an argument")
		}
		for _, left := range append([]impl.Change{change}, told...) {
			if !isLeft(left.Del) || !isLeft(left.Add) || !isLeft(list) {
				t.Fatalf("a call wrote behind an argument")
			}
		}
		kept := cloneChange(diff)
		wants := []impl.Zone{cloneZone(patched), cloneZone(taken), cloneZone(same)}
		wantOut, wantMsgs := slices.Clone(out), make([]string, len(msgs))
		for i, b := range msgs {
			wantMsgs[i] = string(b)
		}
		for _, z := range []impl.Zone{old, new, last} {
			for _, set := range z.Sets {
				clear(set.Data)
			}
			clear(z.Sets)
		}
		for _, c := range append(told, change) {
			clear(c.Del)
			clear(c.Add)
		}
		clear(list)
		isMsg := func(b []byte, s string) bool { return string(b) == s }
		if !sameChange(diff, kept) || !sameZone(patched, wants[0]) || !sameZone(taken, wants[1]) || !sameZone(same, wants[2]) ||
			!slices.Equal(out, wantOut) || !slices.EqualFunc(msgs, wantMsgs, isMsg) {
			t.Fatalf("an answer shares memory with an argument")
		}
		checkApartSets(t, patched)
		checkApartSets(t, same)
		_ = append(diff.Del, impl.RR{Owner: "more"})
		_ = append(diff.Add, impl.RR{Owner: "more"})
		if !sameChange(diff, kept) {
			t.Fatalf("the lists of a change share memory")
		}
		for i := range msgs {
			_ = append(msgs[i], "more"...)
			clear(msgs[i])
			wantMsgs[i] = strings.Repeat("\x00", len(wantMsgs[i]))
			if !slices.EqualFunc(msgs, wantMsgs, isMsg) {
				t.Fatalf("two messages of an answer share memory")
			}
		}
		if !sameZone(taken, wants[1]) {
			t.Fatalf("a zone shares memory with the messages")
		}
	}
}

// P17: PatchZone by DiffZones of two zones makes the one the other.
func TestP17(t *testing.T) {
	r := rand.New(rand.NewSource(140))
	behind, alike := 0, 0
	for n := range 3000 {
		old := changeZone(t, r, apexes()[n%3], 12)
		new := laterZone(t, r, old, 10)
		if n%4 == 0 {
			new = changeZone(t, r, old.Apex, 12)
		}
		c, code := impl.DiffZones(old, new)
		if isLater := impl.SerialLess(serialOf(old), serialOf(new)); isLater != (code == impl.OK) || !isLater && code != impl.ErrSerial {
			t.Fatalf("DiffZones(%s, %s) = %d", tellZone(old), tellZone(new), code)
		}
		if code != impl.OK {
			continue
		}
		got, code := impl.PatchZone(old, c)
		if code != impl.OK || !sameZone(got, new) {
			t.Fatalf("PatchZone of %s by %s = %s, %d, want %s", tellZone(old), tellChange(c), tellZone(got), code, tellZone(new))
		}
		behind++
		if len(c.Del)+len(c.Add) == 0 {
			alike++
		}
	}
	if behind < 2000 || alike < 100 || alike > behind/2 {
		t.Errorf("%d zones came behind, %d with no other record", behind, alike)
	}
}

// P17: of full zones, and with each field of their records another one.
func TestP17Full(t *testing.T) {
	make500 := func(serial int64, from int, ttl int64, turn func(string) string) impl.Zone {
		list := []impl.RR{soaOf(inEx(), serial), rrOf(inEx(), impl.TypeNS, nm("ns"))}
		for n := range 498 {
			list = append(list, inTime(rrOf(turn(inEx("h"+itoa(from+n))), impl.TypeNS, turn(inEx("x"))), ttl))
		}
		return mustBuild(t, list, inEx())
	}
	as := func(s string) string { return s }
	zones := []impl.Zone{
		make500(1, 0, 5, as), make500(2, 0, 6, as), make500(3, 1, 6, as), make500(4, 400, 6, as), make500(5, 400, 6, capital), make500(6, 4000, 0, as),
	}
	for i, old := range zones {
		for _, new := range zones[i+1:] {
			c, code := impl.DiffZones(old, new)
			if code != impl.OK {
				t.Fatalf("DiffZones = %d", code)
			}
			if got, code := impl.PatchZone(old, c); code != impl.OK || !sameZone(got, new) {
				t.Errorf("PatchZone = %s, %d, want %s", tellZone(got), code, tellZone(new))
			}
		}
	}
}

// handOn hands the last of some zones on to an earlier one, and tells what becomes of that and how many records went.
func handOn(t *testing.T, z, last impl.Zone, history []impl.Change, q impl.Question, limit int64) (impl.Zone, []impl.RR) {
	t.Helper()
	list, code := impl.TransferOut(last, history, q.Type, serialOf(z))
	if code != impl.OK {
		t.Fatalf("TransferOut(%s) = %d", tellZone(last), code)
	}
	msgs, code := impl.SplitTransfer(777, q, list, limit)
	if code != impl.OK {
		t.Fatalf("SplitTransfer(%s, %d) = %d", tellRecords(list), limit, code)
	}
	for _, b := range msgs {
		if int64(len(b)) > limit {
			t.Fatalf("a message has %d bytes, the limit is %d", len(b), limit)
		}
	}
	got, code := impl.TransferIn(z, q, 777, msgs)
	if code != impl.OK {
		t.Fatalf("TransferIn(%s, %s) = %d", tellZone(z), tellRecords(list), code)
	}
	return got, list
}

// countOf is how many of some zones have a serial.
func countOf(zones []impl.Zone, serial int64) int {
	n := 0
	for _, z := range zones {
		if serialOf(z) == serial {
			n++
		}
	}
	return n
}

// P18: the receiver's zone is the sender's, of each type, with each limit, from each zone of a history or from none.
func TestP18(t *testing.T) {
	r := rand.New(rand.NewSource(141))
	met := map[string]int{}
	for n := range 500 {
		zones, history := historyOf(t, r, apexes()[n%3], n%7, 5)
		last := zones[len(zones)-1]
		kept := history[r.Intn(len(history)+1):]
		limit := []int64{512, 512, 513, 1000, 4096, 65535}[r.Intn(6)]
		for _, z := range zones {
			if got, _ := handOn(t, z, last, kept, askAll(z.Apex), limit); !sameZone(got, last) {
				t.Fatalf("%s became %s, not %s", tellZone(z), tellZone(got), tellZone(last))
			}
			// Once round all serials two zones may have the same: then it can't be told which one the receiver has.
			if countOf(zones, serialOf(z)) > 1 {
				continue
			}
			got, list := handOn(t, z, last, kept, askSome(z.Apex), limit)
			kind, want := "whole", last
			switch {
			case !impl.SerialLess(serialOf(z), serialOf(last)):
				kind, want = "alone", z
			case list[1].Type == impl.TypeSOA:
				kind = "by changes"
			}
			met[kind]++
			if !sameZone(got, want) {
				t.Fatalf("%s: %s became %s, not %s", kind, tellZone(z), tellZone(got), tellZone(want))
			}
		}
	}
	if met["whole"] < 200 || met["alone"] < 200 || met["by changes"] < 200 {
		t.Errorf("the kinds met are %v", met)
	}
}

// P18: a receiver whose zone the sender never had gets all of it.
func TestP18Stranger(t *testing.T) {
	r := rand.New(rand.NewSource(142))
	taken := 0
	for n := range 300 {
		zones, history := historyOf(t, r, apexes()[n%3], 3, 5)
		z := ownSOA(t, changeZone(t, r, zones[0].Apex, 8))
		last := zones[3]
		if countOf(zones, serialOf(z)) > 0 || !impl.SerialLess(serialOf(z), serialOf(last)) {
			continue
		}
		taken++
		if got, _ := handOn(t, z, last, history, askSome(z.Apex), 512); !sameZone(got, last) {
			t.Fatalf("%s became %s, not %s", tellZone(z), tellZone(got), tellZone(last))
		}
	}
	if taken < 50 {
		t.Errorf("only %d were taken", taken)
	}
}

// P18: of full zones, in messages that are full by their bytes or by their entries.
func TestP18Full(t *testing.T) {
	full := func(serial int64, size int) impl.Zone {
		list := []impl.RR{soaOf(inEx(), serial), rrOf(inEx(), impl.TypeNS, nm("ns"))}
		for n := range 498 {
			list = append(list, rrOf(inEx("h"+itoa(n)), 65280, strings.Repeat("x", (n*37+int(serial))%(size+1))+itoa(n)))
		}
		return mustBuild(t, list, inEx())
	}
	for _, size := range []int{1, 100, 450} {
		zones := []impl.Zone{full(1, size), full(2, size), full(3, size)}
		var history []impl.Change
		for i := range 2 {
			c, _ := impl.DiffZones(zones[i], zones[i+1])
			history = append(history, c)
		}
		for _, limit := range []int64{512, 1000, 4096, 16384, 65535} {
			for _, z := range zones[:2] {
				for _, q := range []impl.Question{askAll(inEx()), askSome(inEx())} {
					if got, _ := handOn(t, z, zones[2], history, q, limit); !sameZone(got, zones[2]) {
						t.Errorf("size %d, limit %d: %s became %s", size, limit, tellZone(z), tellZone(got))
					}
				}
			}
		}
	}
}

// P18: a zone that is changed again and again, and one that follows it now and then.
func TestP18Following(t *testing.T) {
	r := rand.New(rand.NewSource(143))
	for n := range 40 {
		z := ownSOA(t, changeZone(t, r, apexes()[n%3], 6))
		follower, history := z, []impl.Change(nil)
		for range 60 {
			next, code := impl.ApplyChanges(z, dropThat(changesIn(r, z, 4), func(rr impl.RR) bool { return rr.Type == impl.TypeSOA }))
			if code != impl.OK {
				t.Fatalf("ApplyChanges = %d", code)
			}
			if !sameZone(next, z) {
				c, code := impl.DiffZones(z, next)
				if code != impl.OK {
					t.Fatalf("DiffZones = %d", code)
				}
				history = append(history, c)
				history = history[max(0, len(history)-40):]
				z = next
			}
			if r.Intn(5) == 0 {
				follower, _ = handOn(t, follower, z, history, askSome(z.Apex), []int64{512, 4096}[n%2])
				if !sameZone(follower, z) {
					t.Fatalf("the follower has %s, not %s", tellZone(follower), tellZone(z))
				}
			}
		}
	}
}
