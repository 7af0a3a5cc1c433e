package tests

import (
	"math/rand"
	"slices"
	"strings"
	"testing"

	"loop.example/s01858/impl"
)

// journalArgs is what the functions of chapter 14 are called with.
type journalArgs struct {
	z       impl.Zone
	change  impl.Change
	journal []byte
	ops     []impl.StoreOp
}

// callJournal calls all functions of chapter 14: with a code there is nothing beside.
func callJournal(t *testing.T, a journalArgs) {
	t.Helper()
	if b, code := impl.StartJournal(a.z); code != impl.OK && len(b) > 0 {
		t.Errorf("StartJournal = %d bytes beside %d", len(b), code)
	}
	if b, code := impl.AppendChange(a.journal, a.change); code != impl.OK && len(b) > 0 {
		t.Errorf("AppendChange = %d bytes beside %d", len(b), code)
	}
	z, changes, used, code := impl.OpenJournal(a.journal)
	if code != impl.OK && (!sameZone(z, impl.Zone{}) || len(changes) > 0 || used != 0) {
		t.Errorf("OpenJournal = %s, %d changes, %d bytes beside %d", tellZone(z), len(changes), used, code)
	}
	if code == impl.OK && (impl.CheckZone(z) != impl.OK || used < 8 || used > int64(len(a.journal)) || len(changes) > 40) {
		t.Errorf("OpenJournal = %s, %d changes, %d bytes of %d", tellZone(z), len(changes), used, len(a.journal))
	}
	if outs, code := impl.RunStore(a.z, a.ops); code != impl.OK && len(outs) > 0 || code == impl.OK && len(outs) != len(a.ops) {
		t.Errorf("RunStore = %d answers of %d beside %d", len(outs), len(a.ops), code)
	}
	b, code := impl.StoreImage(a.z, a.ops)
	if code != impl.OK && len(b) > 0 {
		t.Errorf("StoreImage = %d bytes beside %d", len(b), code)
	}
	if code == impl.OK {
		if _, _, _, code := impl.OpenJournal(b); code != impl.OK {
			t.Errorf("OpenJournal of StoreImage = %d", code)
		}
	}
}

// P1: no call panics, and every call ends, whatever it is given.
func TestP1Journal(t *testing.T) {
	r := rand.New(rand.NewSource(148))
	names := append(noNames(), someNames()...)
	odd := func() int64 { return oddNumbers()[r.Intn(len(oddNumbers()))] }
	anything := func() impl.RR {
		return impl.RR{Owner: names[r.Intn(len(names))], Type: []int64{6, 6, odd()}[r.Intn(3)], Class: odd(), TTL: odd(), Data: []string{soaOf(root, odd()).Data, names[r.Intn(len(names))]}[r.Intn(2)]}
	}
	for n := range 2000 {
		zones, history := historyOf(t, r, apexes()[n%3], 1+n%4, 3)
		a := journalArgs{z: cloneZone(zones[0]), change: cloneChange(history[len(history)-1]), ops: mixedOps(r, history, n%12)}
		a.journal = []byte(kept(zones[0], history[:len(history)-1]...))
		if n%10 == 0 {
			bendZone(r, &a.z)
		}
		for range r.Intn(4) {
			switch r.Intn(7) {
			case 0:
				a.z.Apex = names[r.Intn(len(names))]
			case 1:
				a.change.Del = append(a.change.Del, anything())
			case 2:
				a.change.Add, a.change.New = append(a.change.Add, anything()), anything()
			case 3:
				a.change.Old = anything()
			case 4:
				a.journal = bent(r, a.journal)
			case 5:
				a.ops = append(a.ops, impl.StoreOp{Kind: odd(), Change: a.change, Steps: odd(), Keep: odd()})
			case 6:
				a.ops = append(a.ops, arming(odd(), odd()), committing(a.change), opening)
			}
		}
		callJournal(t, a)
	}
	callJournal(t, journalArgs{})
	for range 2000 {
		b := make([]byte, r.Intn(60))
		r.Read(b)
		callJournal(t, journalArgs{journal: b})
		callJournal(t, journalArgs{journal: []byte(framed(string(b)))})
		callJournal(t, journalArgs{journal: []byte(framed("Z" + be(int64(r.Intn(4)), 2) + string(b)))})
		callJournal(t, journalArgs{journal: []byte(kept(storeZone(t)) + framed("C"+string(b)))})
	}
}

// P1: calls with much end, too.
func TestP1JournalMuch(t *testing.T) {
	z := mustBuild(t, begun(root), root)
	records := make([]impl.RR, 3000000)
	callJournal(t, journalArgs{
		z: impl.Zone{Apex: root, Sets: make([]impl.Set, 3000000)}, change: impl.Change{Del: records, Add: records},
		journal: make([]byte, 30000000), ops: make([]impl.StoreOp, 3000000),
	})
	for i := range records {
		records[i] = rrOf(nm("a"), impl.TypeA, "abcd")
	}
	change := impl.Change{Old: soaOf(root, 1), New: soaOf(root, 2), Del: records, Add: records}
	callJournal(t, journalArgs{z: z, change: change, journal: []byte(kept(z)), ops: []impl.StoreOp{committing(change)}})
	// As many records as a payload can hold.
	tiny := strings.Repeat(keptRecord(impl.RR{Owner: root}), 36000)
	callJournal(t, journalArgs{journal: []byte(framed("Z" + be(36000, 2) + root + tiny))})
	callJournal(t, journalArgs{journal: []byte(kept(z) + framed("C"+keptList(soaOf(root, 1), soaOf(root, 2))+be(0, 2)+be(36000, 2)+tiny[:11*36000]))})
	// A full zone, dropped and added again and again.
	list := begun(root)
	for n := range 498 {
		list = append(list, rrOf(nm(itoa(n), "a", "b"), 65280, strings.Repeat("x", n%50)+itoa(n)))
	}
	full := mustBuild(t, list, root)
	var ops []impl.StoreOp
	zone := full
	for n := range int64(40) {
		list = impl.ZoneRecords(zone)
		for i := range list {
			list[i].TTL = n
		}
		at := slices.IndexFunc(list, func(rr impl.RR) bool { return rr.Type == impl.TypeSOA })
		list[at] = soaOf(root, n+2)
		next := mustBuild(t, list, root)
		c, code := impl.DiffZones(zone, next)
		if code != impl.OK {
			t.Fatalf("DiffZones = %d", code)
		}
		ops, zone = append(ops, committing(c), compacting, opening), next
	}
	outs, code := impl.RunStore(full, ops)
	if code != impl.OK || outs[len(outs)-1].Serial != 41 {
		t.Errorf("RunStore = %+v, %d", outs, code)
	}
}

// P1: nothing is written into an argument, nor behind it; an answer is new memory.
func TestP1JournalMemory(t *testing.T) {
	r := rand.New(rand.NewSource(149))
	for n := range 400 {
		zones, history := historyOf(t, r, apexes()[n%3], 1+n%4, 5)
		z := cloneZone(zones[0])
		var ops []impl.StoreOp
		for _, c := range history {
			ops = append(ops, committing(impl.Change{Old: c.Old, New: c.New, Del: behindIt(c.Del), Add: behindIt(c.Add)}))
		}
		ops = append(ops, arming(3, 9), compacting, opening)
		told := slices.Clone(ops)
		last := len(history) - 1
		change := ops[last].Change
		journal := append([]byte(kept(zones[0], history[:last]...)), "left"...)
		size := len(journal) - len("left")
		journal = journal[:size]

		start, _ := impl.StartJournal(z)
		longer, code := impl.AppendChange(journal, change)
		opened, changes, _, _ := impl.OpenJournal(journal)
		behind, found, _, _ := impl.OpenJournal(longer)
		impl.RunStore(z, ops)
		image, _ := impl.StoreImage(z, ops)
		whole, _ := impl.StoreImage(z, nil)
		if code != impl.OK || string(journal[:size+4]) != kept(zones[0], history[:last]...)+"left" || !sameZone(z, zones[0]) {
			t.Fatalf("a call wrote into an argument, or %d", code)
		}
		for i, op := range ops {
			if op.Kind != told[i].Kind || op.Steps != told[i].Steps || op.Keep != told[i].Keep || i <= last && !sameChange(op.Change, history[i]) {
				t.Fatalf("a call wrote into an operation")
			}
			if i <= last && (!isLeft(op.Change.Del) || !isLeft(op.Change.Add)) {
				t.Fatalf("a call wrote behind an argument")
			}
		}
		wants := []string{string(start), string(image), string(whole)}
		zonesKept := []impl.Zone{cloneZone(opened), cloneZone(behind)}
		var changesKept []impl.Change
		for _, c := range found {
			changesKept = append(changesKept, cloneChange(c))
		}
		for _, set := range z.Sets {
			clear(set.Data)
		}
		clear(z.Sets)
		clear(journal)
		clear(longer)
		for _, op := range ops {
			clear(op.Change.Del)
			clear(op.Change.Add)
		}
		if !slices.Equal(wants, []string{string(start), string(image), string(whole)}) || !sameZone(opened, zonesKept[0]) || !sameZone(behind, zonesKept[1]) ||
			!slices.EqualFunc(found, changesKept, sameChange) || !slices.EqualFunc(changes, history[:last], sameChange) {
			t.Fatalf("an answer shares memory with an argument")
		}
		checkApartSets(t, opened)
		checkApartSets(t, behind)
		for i := range found {
			_ = append(found[i].Del, impl.RR{Owner: "more"})
			_ = append(found[i].Add, impl.RR{Owner: "more"})
			clear(found[i].Del)
			if !slices.Equal(found[i].Add, changesKept[i].Add) {
				t.Fatalf("the lists of a change share memory")
			}
			clear(found[i].Add)
			if !slices.EqualFunc(found[i+1:], changesKept[i+1:], sameChange) {
				t.Fatalf("two changes of an answer share memory")
			}
		}
		clear(image)
		if again, _ := impl.StoreImage(zones[0], told[:0]); string(again) != string(whole) {
			t.Fatalf("two answers share memory")
		}
	}
}

// P1: a call keeps nothing: the same call answers the same, whatever was called in between.
func TestP1JournalAgain(t *testing.T) {
	r := rand.New(rand.NewSource(150))
	for n := range 100 {
		zones, history := historyOf(t, r, apexes()[n%3], 4, 3)
		ops := mixedOps(r, history, 12)
		first, _ := impl.RunStore(zones[0], ops)
		image, _ := impl.StoreImage(zones[0], ops)
		impl.RunStore(zones[1], []impl.StoreOp{arming(1, 0), compacting})
		again, _ := impl.RunStore(zones[0], ops)
		other, _ := impl.StoreImage(zones[0], ops)
		if !slices.Equal(first, again) || string(image) != string(other) {
			t.Fatalf("RunStore = %+v, and then %+v", first, again)
		}
	}
}

// checkCuts cuts a journal of zones and the changes between them at every byte, with and without bytes behind the cut.
func checkCuts(t *testing.T, zones []impl.Zone, changes []impl.Change, behind []string) {
	t.Helper()
	b := kept(zones[0], changes...)
	var ends []int
	for n := range len(changes) + 1 {
		ends = append(ends, len(kept(zones[0], changes[:n]...)))
	}
	for cut := range len(b) + 1 {
		if cut < ends[0] {
			checkNoJournal(t, "cut at "+itoa(cut), b[:cut], impl.ErrDisk)
			continue
		}
		n := len(changes)
		for ends[n] > cut {
			n--
		}
		checkOpen(t, "cut at "+itoa(cut), b[:cut], zones[n], changes[:n], int64(ends[n]), impl.OK)
		for i, more := range behind {
			// What is behind the cut is no more than it was: else the change would stand whole.
			if cut == len(b) || !strings.HasPrefix(more, b[cut:cut+1]) {
				checkOpen(t, "cut at "+itoa(cut)+" and bytes "+itoa(i), b[:cut]+more, zones[n], changes[:n], int64(ends[n]), impl.OK)
			}
		}
	}
}

// P19: a journal of changes of all kinds, cut at every byte.
func TestP19(t *testing.T) {
	zones, changes := keptZones(t)
	checkCuts(t, zones, changes, []string{"\x00", "C", "\xff\xff\xff\xff", string(make([]byte, 500)), strings.Repeat("\xff", 500), framed("")})
	// A whole change behind the cut is out of its place.
	b := kept(zones[0], changes[:2]...)
	first := len(kept(zones[0]))
	for cut := first; cut < len(kept(zones[0], changes[0])); cut++ {
		for _, c := range changes[:2] {
			more := framed(keptChange(c))
			if cut == first && sameChange(c, changes[0]) {
				continue
			}
			checkOpen(t, "cut at "+itoa(cut)+" and a change", b[:cut]+more, zones[0], nil, int64(first), impl.OK)
		}
	}
}

// P19: arbitrary journals, made by AppendChange.
func TestP19Any(t *testing.T) {
	r := rand.New(rand.NewSource(151))
	for n := range 25 {
		zones, history := historyOf(t, r, apexes()[n%3], 1+n%5, 3)
		b, code := impl.StartJournal(zones[0])
		for _, c := range history {
			if code == impl.OK {
				b, code = impl.AppendChange(b, c)
			}
		}
		if code != impl.OK || string(b) != kept(zones[0], history...) {
			t.Fatalf("AppendChange = %d bytes, %d", len(b), code)
		}
		checkCuts(t, zones, history, []string{string(someBytes(r, 300))})
	}
}

// P19: a journal with as many changes as there may be.
func TestP19Most(t *testing.T) {
	changes := hostChanges(1, 40)
	zones := []impl.Zone{storeZone(t)}
	for i, c := range changes {
		zones = append(zones, zoneBehind(t, zones[i], []impl.Change{c}))
	}
	b := kept(zones[0], changes...)
	r := rand.New(rand.NewSource(152))
	ends := []int{len(kept(zones[0]))}
	for _, c := range changes {
		ends = append(ends, ends[len(ends)-1]+len(framed(keptChange(c))))
	}
	for range 300 {
		n := r.Intn(41)
		cut := ends[n] + []int{0, 0, 1, 4, 5, 50}[r.Intn(6)]
		if n == 40 {
			cut = ends[n]
		}
		checkOpen(t, "cut at "+itoa(cut), b[:cut], zones[n], changes[:n], int64(ends[n]), impl.OK)
	}
}

// zoneOn is the zone that a disk has behind operations.
func zoneOn(t *testing.T, z impl.Zone, ops []impl.StoreOp) impl.Zone {
	t.Helper()
	b, code := impl.StoreImage(z, ops)
	if code != impl.OK {
		t.Fatalf("StoreImage(%s) = %d", tellOps(ops), code)
	}
	z, _, _, code = impl.OpenJournal(b)
	if code != impl.OK {
		t.Fatalf("OpenJournal behind %s = %d", tellOps(ops), code)
	}
	return z
}

// crashAt runs operations that crash at a step, opens the disk, and tells how many changes it has then; zones are those
// behind each number of changes. What was answered must be there, and one more at most.
func crashAt(t *testing.T, zones []impl.Zone, ops []impl.StoreOp, steps, keep int64) ([]impl.StoreOp, int, bool) {
	t.Helper()
	all := append(append([]impl.StoreOp{arming(steps, keep)}, ops...), opening)
	outs, code := impl.RunStore(zones[0], all)
	if code != impl.OK {
		t.Fatalf("RunStore(%s) = %d", tellOps(all), code)
	}
	done, crashed := 0, false
	for i, o := range outs {
		crashed = crashed || o.Code == impl.ErrDisk
		if crashed && i < len(outs)-1 && o.Code != impl.ErrDisk {
			t.Fatalf("%s: answer %d behind the crash is %+v", tellOps(all), i, o)
		}
		if all[i].Kind == impl.StoreCommit && o.Code == impl.OK {
			done++
		}
		if i < len(outs)-1 && o.Serial != serialOf(zones[done]) {
			t.Fatalf("%s: answer %d is %+v, %d changes were answered", tellOps(all), i, o, done)
		}
	}
	has := done
	if last := outs[len(outs)-1]; last.Code != impl.OK || last.Serial != serialOf(zones[done]) {
		has++
		if !crashed || last.Code != impl.OK || has == len(zones) || last.Serial != serialOf(zones[has]) {
			t.Fatalf("%s: the opening answers %+v, %d changes were answered", tellOps(all), last, done)
		}
	}
	if z := zoneOn(t, zones[0], all); !sameZone(z, zones[has]) {
		t.Fatalf("%s: the disk has %s, want %s", tellOps(all), tellZone(z), tellZone(zones[has]))
	}
	return all, has, crashed
}

// goOn commits all that is left, behind an opening, and asks for the last zone.
func goOn(t *testing.T, zones []impl.Zone, changes []impl.Change, ops []impl.StoreOp, has int) {
	t.Helper()
	for _, c := range changes[has:] {
		ops = append(ops, committing(c))
	}
	ops = append(ops, compacting, opening)
	outs, code := impl.RunStore(zones[0], ops)
	for _, o := range outs[len(outs)-len(changes[has:])-2:] {
		if code != impl.OK || o.Code != impl.OK {
			t.Fatalf("%s: it does not go on: %+v, %d", tellOps(ops), outs, code)
		}
	}
	last := zones[len(zones)-1]
	if z := zoneOn(t, zones[0], ops); !sameZone(z, last) {
		t.Fatalf("%s: the disk has %s, want %s", tellOps(ops), tellZone(z), tellZone(last))
	}
}

// stepsOf is how many steps operations have.
func stepsOf(ops []impl.StoreOp) int64 {
	n := int64(0)
	for _, op := range ops {
		n += map[int64]int64{impl.StoreCommit: 2, impl.StoreCompact: 4}[op.Kind]
	}
	return n
}

// P20: a history of commits and compactions, crashed in every step, keeping every number of bytes.
func TestP20(t *testing.T) {
	zones, changes := keptZones(t)
	var ops []impl.StoreOp
	for i, c := range changes {
		if i == 2 || i == 5 {
			ops = append(ops, compacting)
		}
		ops = append(ops, committing(c))
	}
	ops = append(ops, compacting)
	steps := stepsOf(ops)
	torn, more := 0, 0
	for step := int64(1); step <= steps+1; step++ {
		for keep := int64(-1); keep < 420; keep++ {
			all, has, crashed := crashAt(t, zones, ops, step, keep)
			if crashed != (step <= steps) {
				t.Fatalf("step %d of %d: crashed is %v", step, steps, crashed)
			}
			if keep%8 == 0 {
				goOn(t, zones, changes, all, has)
			}
			answered := 0
			for _, op := range ops[:opOf(ops, step)] {
				if op.Kind == impl.StoreCommit {
					answered++
				}
			}
			switch has - answered {
			case 0:
				torn++
			case 1:
				more++
			default:
				t.Fatalf("step %d keeping %d: %d changes, %d were answered", step, keep, has, answered)
			}
		}
	}
	if torn < 1000 || more < 300 {
		t.Errorf("%d times nothing more was there, %d times one more", torn, more)
	}
}

// opOf is how many operations are behind when a step is to be taken.
func opOf(ops []impl.StoreOp, step int64) int {
	for i := range ops {
		if stepsOf(ops[:i+1]) >= step {
			return i
		}
	}
	return len(ops)
}

// P20: arbitrary histories that crash again and again, and go on from where they are.
func TestP20Any(t *testing.T) {
	r := rand.New(rand.NewSource(153))
	crashes, lost, more := 0, 0, 0
	for n := range 400 {
		zones, history := historyOf(t, r, apexes()[n%3], 8, 3)
		var ops []impl.StoreOp
		// has is how many changes the disk has, as far as its answers tell.
		has, outs := 0, []impl.StoreOut(nil)
		for len(ops) < 60 && has < len(history) {
			if r.Intn(3) == 0 {
				ops = append(ops, arming(int64(1+r.Intn(6)), []int64{0, 1, int64(r.Intn(300)), 100000}[r.Intn(4)]))
			}
			op := committing(history[has])
			if r.Intn(4) == 0 {
				op = compacting
			}
			ops = append(ops, op)
			outs, _ = impl.RunStore(zones[0], ops)
			switch last := outs[len(outs)-1]; {
			case last.Code == impl.ErrDisk:
				crashes++
				ops = append(ops, opening)
				outs, _ = impl.RunStore(zones[0], ops)
				last = outs[len(outs)-1]
				if op.Kind == impl.StoreCommit && last.Serial == serialOf(zones[has+1]) {
					more++
					has++
				} else {
					lost++
				}
			case last.Code != impl.OK:
				t.Fatalf("%s answers %+v", tellOps(ops), last)
			case op.Kind == impl.StoreCommit:
				has++
			}
			if r.Intn(3) == 0 {
				ops = append(ops, opening)
			}
			if z := zoneOn(t, zones[0], ops); !sameZone(z, zones[has]) {
				t.Fatalf("%s: the disk has %s, want %s", tellOps(ops), tellZone(z), tellZone(zones[has]))
			}
		}
		checkStore(t, zones[0], ops)
	}
	if crashes < 500 || lost < 200 || more < 100 {
		t.Errorf("%d crashes, %d lost what was under way, %d did not", crashes, lost, more)
	}
}
