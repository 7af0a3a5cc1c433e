package tests

import (
	"math"
	"math/rand"
	"slices"
	"strings"
	"testing"

	"loop.example/s01858/impl"
)

// The sizes of what the stores below hold: the zone with the serial 1, the frame of a change, and the zone with one
// host more.
const (
	sizeFirst  = 4 + 1 + 2 + 9 + (9 + 10 + 4) + (9 + 10 + 31) + 4
	sizeChange = 4 + 1 + 2*(9+10+31) + 2 + 2 + sizeHost + 4
	sizeHost   = 12 + 10 + 1
)

// storeZone is the zone that the stores below begin with.
func storeZone(t *testing.T) impl.Zone {
	t.Helper()
	return mustBuild(t, begun(inEx()), inEx())
}

// to is the commit of the change that leads to a serial.
func to(serial int64) impl.StoreOp { return committing(hostChange(serial-1, 1)) }

// out is an answer.
func out(code, serial, changes, bytes int64) impl.StoreOut {
	return impl.StoreOut{Code: code, Serial: serial, Changes: changes, Bytes: bytes}
}

// storeCase is operations, and the answer of each.
type storeCase struct {
	tell string
	ops  []impl.StoreOp
	outs []impl.StoreOut
}

func checkStoreCases(t *testing.T, z impl.Zone, cases []storeCase) {
	t.Helper()
	for _, c := range cases {
		got, code := impl.RunStore(z, c.ops)
		if code != impl.OK || !slices.Equal(got, c.outs) {
			t.Errorf("%s: RunStore = %+v, %d, want %+v", c.tell, got, code, c.outs)
		}
		checkStore(t, z, c.ops)
	}
}

func TestStore(t *testing.T) {
	const first, one = sizeFirst, sizeChange
	checkStoreCases(t, storeZone(t), []storeCase{
		{"no operation", nil, nil},
		{"a commit", []impl.StoreOp{to(2)}, []impl.StoreOut{out(0, 2, 1, first+one)}},
		{"commits", []impl.StoreOp{to(2), to(3), to(4)}, []impl.StoreOut{out(0, 2, 1, first+one), out(0, 3, 2, first+2*one), out(0, 4, 3, first+3*one)}},
		{"a commit that does not fit", []impl.StoreOp{to(3), to(2), to(2), to(3)}, []impl.StoreOut{
			out(impl.ErrSerial, 1, 0, first), out(0, 2, 1, first+one), out(impl.ErrSerial, 2, 1, first+one), out(0, 3, 2, first+2*one),
		}},
		{"an ill commit", []impl.StoreOp{{Kind: impl.StoreCommit}, to(2)}, []impl.StoreOut{out(impl.ErrForm, 1, 0, first), out(0, 2, 1, first+one)}},
		{"a compaction", []impl.StoreOp{compacting}, []impl.StoreOut{out(0, 1, 0, first)}},
		{"a compaction behind commits", []impl.StoreOp{to(2), to(3), compacting, to(4)}, []impl.StoreOut{
			out(0, 2, 1, first+one), out(0, 3, 2, first+2*one), out(0, 3, 0, first+2*sizeHost), out(0, 4, 1, first+2*sizeHost+one),
		}},
		{"compactions", []impl.StoreOp{to(2), compacting, compacting}, []impl.StoreOut{out(0, 2, 1, first+one), out(0, 2, 0, first+sizeHost), out(0, 2, 0, first+sizeHost)}},
		{"an opening", []impl.StoreOp{opening}, []impl.StoreOut{out(0, 1, 0, first)}},
		{"openings", []impl.StoreOp{to(2), opening, opening, to(3)}, []impl.StoreOut{out(0, 2, 1, first+one), out(0, 2, 1, first+one), out(0, 2, 1, first+one), out(0, 3, 2, first+2*one)}},
		{"an opening behind a compaction", []impl.StoreOp{to(2), compacting, opening, to(3)}, []impl.StoreOut{
			out(0, 2, 1, first+one), out(0, 2, 0, first+sizeHost), out(0, 2, 0, first+sizeHost), out(0, 3, 1, first+sizeHost+one),
		}},
		{"other kinds", []impl.StoreOp{{}, {Kind: 5, Change: hostChange(1, 1)}, {Kind: -1}, to(2), {Kind: math.MaxInt64}, {Kind: math.MinInt64}}, []impl.StoreOut{
			out(impl.ErrForm, 1, 0, first), out(impl.ErrForm, 1, 0, first), out(impl.ErrForm, 1, 0, first), out(0, 2, 1, first+one),
			out(impl.ErrForm, 2, 1, first+one), out(impl.ErrForm, 2, 1, first+one),
		}},
		{"fields of other kinds", []impl.StoreOp{
			{Kind: impl.StoreCompact, Change: hostChange(1, 1), Steps: 1}, {Kind: impl.StoreOpen, Change: hostChange(1, 1), Steps: 1, Keep: 9},
			{Kind: impl.StoreCommit, Change: hostChange(1, 1), Steps: 1}, {Kind: impl.StoreArm, Change: hostChange(1, 1)}, to(3),
		}, []impl.StoreOut{out(0, 1, 0, first), out(0, 1, 0, first), out(0, 2, 1, first+one), out(0, 2, 1, first+one), out(0, 3, 2, first+2*one)}},
	})
}

func TestStoreCrash(t *testing.T) {
	const first, one = sizeFirst, sizeChange
	down := func(serial, changes, bytes int64) impl.StoreOut { return out(impl.ErrDisk, serial, changes, bytes) }
	armed := out(0, 1, 0, first)
	checkStoreCases(t, storeZone(t), []storeCase{
		{"in place of the append", []impl.StoreOp{arming(1, 99), to(2), opening, to(2)}, []impl.StoreOut{armed, down(1, 0, first), armed, out(0, 2, 1, first+one)}},
		{"in place of the sync, none kept", []impl.StoreOp{arming(2, 0), to(2), opening, to(2)}, []impl.StoreOut{armed, down(1, 0, first), armed, out(0, 2, 1, first+one)}},
		{"in place of the sync, below none", []impl.StoreOp{arming(2, -1), to(2), opening, to(2)}, []impl.StoreOut{armed, down(1, 0, first), armed, out(0, 2, 1, first+one)}},
		{"in place of the sync, some kept", []impl.StoreOp{arming(2, 10), to(2), opening, to(2)}, []impl.StoreOut{armed, down(1, 0, first+10), armed, out(0, 2, 1, first+one)}},
		{"in place of the sync, all but one", []impl.StoreOp{arming(2, one-1), to(2), opening, to(2)}, []impl.StoreOut{armed, down(1, 0, first+one-1), armed, out(0, 2, 1, first+one)}},
		{"in place of the sync, all", []impl.StoreOp{arming(2, one), to(2), opening, to(3)}, []impl.StoreOut{armed, down(1, 0, first+one), out(0, 2, 1, first+one), out(0, 3, 2, first+2*one)}},
		{"in place of the sync, one more", []impl.StoreOp{arming(2, one+1), to(2), opening, to(3)}, []impl.StoreOut{armed, down(1, 0, first+one), out(0, 2, 1, first+one), out(0, 3, 2, first+2*one)}},
		{"in place of the sync, most", []impl.StoreOp{arming(2, math.MaxInt64), to(2), opening}, []impl.StoreOut{armed, down(1, 0, first+one), out(0, 2, 1, first+one)}},
		// What a crash left, and was opened, no later crash takes.
		{"kept and opened again", []impl.StoreOp{arming(2, one), to(2), opening, opening, to(3)}, []impl.StoreOut{
			armed, down(1, 0, first+one), out(0, 2, 1, first+one), out(0, 2, 1, first+one), out(0, 3, 2, first+2*one),
		}},
		{"kept, and the next one crashes", []impl.StoreOp{arming(2, one), to(2), opening, arming(2, 5), to(3), opening}, []impl.StoreOut{
			armed, down(1, 0, first+one), out(0, 2, 1, first+one), out(0, 2, 1, first+one), down(2, 1, first+one+5), out(0, 2, 1, first+one),
		}},
		{"the second commit", []impl.StoreOp{arming(3, 99), to(2), to(3), opening}, []impl.StoreOut{armed, out(0, 2, 1, first+one), down(2, 1, first+one), out(0, 2, 1, first+one)}},
		{"the second commit's sync", []impl.StoreOp{arming(4, 99), to(2), to(3), opening}, []impl.StoreOut{armed, out(0, 2, 1, first+one), down(2, 1, first+one+99), out(0, 2, 1, first+one)}},
		{"a commit that is refused takes no step", []impl.StoreOp{arming(1, 0), to(3), to(2)}, []impl.StoreOut{armed, out(impl.ErrSerial, 1, 0, first), down(1, 0, first)}},
		{"another kind takes no step", []impl.StoreOp{arming(1, 0), {Kind: 9}, to(2)}, []impl.StoreOut{armed, out(impl.ErrForm, 1, 0, first), down(1, 0, first)}},
		{"beyond what comes", []impl.StoreOp{arming(7, 0), to(2), compacting}, []impl.StoreOut{armed, out(0, 2, 1, first+one), out(0, 2, 0, first+sizeHost)}},
		{"far beyond what comes", []impl.StoreOp{arming(math.MaxInt64, 0), to(2), compacting}, []impl.StoreOut{armed, out(0, 2, 1, first+one), out(0, 2, 0, first+sizeHost)}},
	})
}

func TestStoreDown(t *testing.T) {
	const first, one = sizeFirst, sizeChange
	down := func(serial, changes, bytes int64) impl.StoreOut { return out(impl.ErrDisk, serial, changes, bytes) }
	armed := out(0, 1, 0, first)
	checkStoreCases(t, storeZone(t), []storeCase{
		{"commits and compactions", []impl.StoreOp{arming(1, 0), to(2), to(2), compacting, to(9), {Kind: impl.StoreCommit}, opening, to(2)}, []impl.StoreOut{
			armed, down(1, 0, first), down(1, 0, first), down(1, 0, first), down(1, 0, first), down(1, 0, first), armed, out(0, 2, 1, first+one),
		}},
		{"bytes as they are", []impl.StoreOp{to(2), arming(2, 7), to(3), to(3), compacting, opening}, []impl.StoreOut{
			out(0, 2, 1, first+one), out(0, 2, 1, first+one), down(2, 1, first+one+7), down(2, 1, first+one+7), down(2, 1, first+one+7), out(0, 2, 1, first+one),
		}},
		{"another kind", []impl.StoreOp{arming(2, 7), to(2), {Kind: 9}, {}}, []impl.StoreOut{armed, down(1, 0, first+7), out(impl.ErrForm, 1, 0, first+7), out(impl.ErrForm, 1, 0, first+7)}},
		// Arming is answered, and counts from then on, since nothing crashes when a disk that is down is opened.
		{"armed while it is down", []impl.StoreOp{arming(2, 7), to(2), arming(1, 0), to(2), opening, to(2), opening, to(2)}, []impl.StoreOut{
			armed, down(1, 0, first+7), out(0, 1, 0, first+7), down(1, 0, first+7), armed, down(1, 0, first), armed, out(0, 2, 1, first+one),
		}},
		{"armed for the sync while it is down", []impl.StoreOp{arming(1, 0), to(2), arming(2, 3), opening, to(2)}, []impl.StoreOut{armed, down(1, 0, first), armed, armed, down(1, 0, first+3)}},
		// A crash disarms, also the one with which a disk that is up is opened.
		{"disarmed by its crash", []impl.StoreOp{arming(1, 0), to(2), opening, to(2), to(3)}, []impl.StoreOut{armed, down(1, 0, first), armed, out(0, 2, 1, first+one), out(0, 3, 2, first+2*one)}},
		{"disarmed by an opening", []impl.StoreOp{arming(1, 0), opening, to(2)}, []impl.StoreOut{armed, armed, out(0, 2, 1, first+one)}},
		{"disarmed by an opening within", []impl.StoreOp{arming(4, 0), to(2), opening, to(3), compacting}, []impl.StoreOut{
			armed, out(0, 2, 1, first+one), out(0, 2, 1, first+one), out(0, 3, 2, first+2*one), out(0, 3, 0, first+2*sizeHost),
		}},
	})
}

func TestStoreArm(t *testing.T) {
	const first, one = sizeFirst, sizeChange
	armed := out(0, 1, 0, first)
	done := out(0, 2, 1, first+one)
	down := func(bytes int64) impl.StoreOut { return out(impl.ErrDisk, 1, 0, bytes) }
	var cases []storeCase
	for _, steps := range []int64{0, -1, -2, math.MinInt64} {
		cases = append(cases,
			storeCase{"below 1", []impl.StoreOp{arming(steps, 5), to(2)}, []impl.StoreOut{armed, done}},
			storeCase{"below 1 in place of another", []impl.StoreOp{arming(1, 5), arming(steps, 5), to(2)}, []impl.StoreOut{armed, armed, done}},
			storeCase{"another in its place", []impl.StoreOp{arming(steps, 5), arming(2, 5), to(2)}, []impl.StoreOut{armed, armed, down(first + 5)}},
		)
	}
	cases = append(cases,
		storeCase{"later", []impl.StoreOp{arming(1, 5), arming(2, 6), to(2)}, []impl.StoreOut{armed, armed, down(first + 6)}},
		storeCase{"earlier", []impl.StoreOp{arming(2, 5), arming(1, 6), to(2)}, []impl.StoreOut{armed, armed, down(first)}},
		storeCase{"beyond", []impl.StoreOp{arming(1, 5), arming(3, 6), to(2)}, []impl.StoreOut{armed, armed, done}},
		storeCase{"other bytes", []impl.StoreOp{arming(2, 5), arming(2, 0), to(2)}, []impl.StoreOut{armed, armed, down(first)}},
		storeCase{"anew behind a commit", []impl.StoreOp{arming(3, 5), to(2), arming(2, 6), to(3)}, []impl.StoreOut{armed, done, done, out(impl.ErrDisk, 2, 1, first+one+6)}},
		storeCase{"bytes below none", []impl.StoreOp{arming(2, math.MinInt64), to(2)}, []impl.StoreOut{armed, down(first)}},
	)
	checkStoreCases(t, storeZone(t), cases)
}

// A compaction has four steps; a crash in place of any of them leaves the journal as it was, whatever is kept.
func TestStoreCompactCrash(t *testing.T) {
	const first, one = sizeFirst, sizeChange
	was := out(0, 3, 2, first+2*one)
	var cases []storeCase
	for steps := int64(1); steps <= 4; steps++ {
		for _, keep := range []int64{-1, 0, 1, first + 2*sizeHost, first + 2*sizeHost + 1, math.MaxInt64} {
			cases = append(cases, storeCase{
				"step " + itoa(int(steps)) + " keeping " + itoa(int(keep)),
				[]impl.StoreOp{to(2), to(3), arming(steps, keep), compacting, compacting, opening, compacting, to(4)},
				[]impl.StoreOut{
					out(0, 2, 1, first+one), was, was, out(impl.ErrDisk, 3, 2, first+2*one), out(impl.ErrDisk, 3, 2, first+2*one), was,
					out(0, 3, 0, first+2*sizeHost), out(0, 4, 1, first+2*sizeHost+one),
				},
			})
		}
	}
	cases = append(cases,
		storeCase{"behind the compaction", []impl.StoreOp{arming(5, 9), compacting, to(2), opening}, []impl.StoreOut{
			out(0, 1, 0, first), out(0, 1, 0, first), out(impl.ErrDisk, 1, 0, first), out(0, 1, 0, first),
		}},
		storeCase{"at the sync behind the compaction", []impl.StoreOp{to(2), arming(6, 9), compacting, to(3), opening}, []impl.StoreOut{
			out(0, 2, 1, first+one), out(0, 2, 1, first+one), out(0, 2, 0, first+sizeHost), out(impl.ErrDisk, 2, 0, first+sizeHost+9), out(0, 2, 0, first+sizeHost),
		}},
	)
	checkStoreCases(t, storeZone(t), cases)
}

// The journal's bytes ahead of a crash, behind it and behind the opening.
func TestStoreImage(t *testing.T) {
	z := storeZone(t)
	first, second := hostChange(1, 1), hostChange(2, 1)
	behind, _ := patchOf(z, first)
	frame := framed(keptChange(second))
	ops := []impl.StoreOp{to(2), arming(2, 20), to(3), opening, to(3), arming(4, 0), compacting, opening, compacting, to(9)}
	third, _ := patchOf(behind, second)
	for n, want := range []string{
		kept(z), kept(z, first), kept(z, first), kept(z, first) + frame[:20], kept(z, first), kept(z, first, second),
		kept(z, first, second), kept(z, first, second), kept(z, first, second), kept(third), kept(third),
	} {
		if got, code := impl.StoreImage(z, ops[:n]); code != impl.OK || string(got) != want {
			t.Errorf("StoreImage behind %d operations = %d bytes, %d, want %d", n, len(got), code, len(want))
		}
	}
}

func checkNoStore(t *testing.T, tell string, z impl.Zone, ops []impl.StoreOp, want int64) {
	t.Helper()
	if got, code := impl.RunStore(z, ops); code != want || len(got) != 0 {
		t.Errorf("%s: RunStore = %d answers, %d, want %d", tell, len(got), code, want)
	}
	if got, code := impl.StoreImage(z, ops); code != want || len(got) != 0 {
		t.Errorf("%s: StoreImage = %d bytes, %d, want %d", tell, len(got), code, want)
	}
}

func TestStoreNone(t *testing.T) {
	z := storeZone(t)
	for tell, ill := range noZones(z) {
		for _, ops := range [][]impl.StoreOp{nil, {to(2)}, make([]impl.StoreOp, 201)} {
			checkNoStore(t, tell, ill, ops, impl.ErrForm)
		}
	}
	great := greatZone(t, 400001)
	for _, ops := range [][]impl.StoreOp{nil, {to(2)}, make([]impl.StoreOp, 201)} {
		checkNoStore(t, "too great", great, ops, impl.ErrSize)
	}
	great.Apex = nm("com")
	checkNoStore(t, "too great and not valid", great, nil, impl.ErrForm)
	for _, n := range []int{201, 202, 100000} {
		checkNoStore(t, itoa(n)+" operations", z, make([]impl.StoreOp, n), impl.ErrCount)
		checkNoStore(t, itoa(n)+" commits", z, slices.Repeat([]impl.StoreOp{to(2)}, n), impl.ErrCount)
	}
}

func TestStoreMostOperations(t *testing.T) {
	z := storeZone(t)
	var ops []impl.StoreOp
	for serial := int64(2); len(ops) < 200; serial++ {
		ops = append(ops, to(serial))
		if len(ops)%20 == 0 {
			ops = append(ops, compacting)
		}
	}
	for _, n := range []int{199, 200} {
		got, code := impl.RunStore(z, ops[:n])
		if code != impl.OK || len(got) != n || slices.ContainsFunc(got, func(o impl.StoreOut) bool { return o.Code != impl.OK }) {
			t.Fatalf("RunStore of %d = %+v, %d", n, got, code)
		}
	}
	checkStore(t, z, make([]impl.StoreOp, 200))
}

func TestStoreHistory(t *testing.T) {
	const first, one = sizeFirst, sizeChange
	z := storeZone(t)
	var ops []impl.StoreOp
	for serial := int64(2); serial <= 41; serial++ {
		ops = append(ops, to(serial))
	}
	ops = append(ops, to(42), arming(1, 0), to(42), impl.StoreOp{Kind: impl.StoreCommit}, arming(0, 0), opening, to(42), compacting, to(42))
	got, code := impl.RunStore(z, ops)
	if code != impl.OK {
		t.Fatalf("RunStore = %d", code)
	}
	size := int64(0)
	for n := range 40 {
		size = got[n].Bytes
		if got[n] != out(0, int64(n)+2, int64(n)+1, size) || n < 8 && size != first+int64(n+1)*one {
			t.Fatalf("answer %d = %+v", n, got[n])
		}
	}
	full := out(impl.ErrCount, 41, 40, size)
	compact := int64(len(kept(zoneBehind(t, z, hostChanges(1, 40)))))
	last := hostChange(41, 1)
	want := []impl.StoreOut{
		full, out(0, 41, 40, size), full, full, out(0, 41, 40, size), out(0, 41, 40, size), full, out(0, 41, 0, compact),
		out(0, 42, 1, compact+int64(len(framed(keptChange(last))))),
	}
	if !slices.Equal(got[40:], want) {
		t.Errorf("RunStore = %+v, want %+v", got[40:], want)
	}
	checkStore(t, z, ops)
}

// zoneBehind is a zone behind changes.
func zoneBehind(t *testing.T, z impl.Zone, changes []impl.Change) impl.Zone {
	t.Helper()
	for _, c := range changes {
		next, code := patchOf(z, c)
		if code != impl.OK {
			t.Fatalf("a change does not fit: %d", code)
		}
		z = next
	}
	return z
}

// A commit for which there is no room does nothing; a compaction makes room.
func TestStoreSize(t *testing.T) {
	great := greatZone(t, 300000)
	rr := recordsAt(great, inEx("last"), 65280)[0]
	drop := impl.Change{Old: soaOf(inEx(), 1), New: soaOf(inEx(), 2), Del: []impl.RR{rr}}
	first := 300000 + int64(len(framed(keptChange(drop))))
	second := first + int64(len(framed(keptChange(hostChange(2, 20000)))))
	// room is how great the host of one more change may be.
	room := 400000 - int(second) - len(framed(keptChange(hostChange(3, 0))))
	ops := []impl.StoreOp{
		committing(drop), committing(hostChange(2, 20000)), arming(1, 0), committing(hostChange(3, room+1)), arming(0, 0),
		committing(hostChange(3, room)), to(5), compacting, to(5),
	}
	got, code := impl.RunStore(great, ops)
	if code != impl.OK {
		t.Fatalf("RunStore = %d", code)
	}
	want := []impl.StoreOut{
		out(0, 2, 1, first), out(0, 3, 2, second), out(0, 3, 2, second), out(impl.ErrSize, 3, 2, second), out(0, 3, 2, second),
		out(0, 4, 3, 400000), out(impl.ErrSize, 4, 3, 400000),
	}
	if !slices.Equal(got[:7], want) {
		t.Errorf("RunStore = %+v, want %+v", got[:7], want)
	}
	compact := int64(len(kept(zoneBehind(t, great, []impl.Change{drop, hostChange(2, 20000), hostChange(3, room)}))))
	if want = []impl.StoreOut{out(0, 4, 0, compact), out(0, 5, 1, compact+sizeChange)}; !slices.Equal(got[7:], want) {
		t.Errorf("behind the compaction: %+v, want %+v", got[7:], want)
	}
	checkStore(t, great, ops)
	// Behind an opening there is no more room than there was, and no less.
	got, _ = impl.RunStore(great, []impl.StoreOp{ops[0], ops[1], opening, ops[3], ops[5], opening, to(5)})
	if want = []impl.StoreOut{out(impl.ErrSize, 3, 2, second), out(0, 4, 3, 400000), out(0, 4, 3, 400000), out(impl.ErrSize, 4, 3, 400000)}; !slices.Equal(got[3:], want) {
		t.Errorf("behind an opening: %+v, want %+v", got[3:], want)
	}
	full := greatZone(t, 400000)
	none := out(impl.ErrSize, 1, 0, 400000)
	got, _ = impl.RunStore(full, []impl.StoreOp{to(2), compacting, to(2), arming(3, 5), compacting, opening, to(2), compacting})
	if want = []impl.StoreOut{none, out(0, 1, 0, 400000), none, out(0, 1, 0, 400000), out(impl.ErrDisk, 1, 0, 400000), out(0, 1, 0, 400000), none, out(0, 1, 0, 400000)}; !slices.Equal(got, want) {
		t.Errorf("a full journal: %+v, want %+v", got, want)
	}
}

// Each code of AppendChange, with nothing done.
func TestStoreRefused(t *testing.T) {
	z := storeZone(t)
	for tell, c := range otherChanges(hostChange(1, 1)) {
		_, code := appendOf(kept(z), c)
		ops := []impl.StoreOp{arming(2, 5), committing(c), to(2)}
		got, _ := impl.RunStore(z, ops)
		want := []impl.StoreOut{out(0, 1, 0, sizeFirst), out(code, 1, 0, sizeFirst), out(impl.ErrDisk, 1, 0, sizeFirst+5)}
		if code == impl.OK || !slices.Equal(got, want) {
			t.Errorf("%s: RunStore = %+v, want %+v", tell, got, want)
		}
		checkStore(t, z, ops)
	}
	for tell, rr := range illRecords(hostChange(1, 1).Add[0]) {
		c := hostChange(1, 1)
		c.Add = append(c.Add, rr)
		if got, _ := impl.RunStore(z, []impl.StoreOp{committing(c)}); !slices.Equal(got, []impl.StoreOut{out(impl.ErrForm, 1, 0, sizeFirst)}) {
			t.Errorf("%s: RunStore = %+v", tell, got)
		}
	}
}

// The names and letters of a zone go through the disk as they are.
func TestStoreKinds(t *testing.T) {
	zones, changes := keptZones(t)
	var ops []impl.StoreOp
	for n, c := range changes {
		ops = append(ops, committing(c))
		if n == 3 {
			ops = append(ops, compacting)
		}
		ops = append(ops, opening)
		checkStore(t, zones[0], ops)
		b, _ := impl.StoreImage(zones[0], ops)
		if z, _, _, code := impl.OpenJournal(b); code != impl.OK || !sameZone(z, zones[n+1]) {
			t.Errorf("behind change %d the zone is %s, want %s", n, tellZone(z), tellZone(zones[n+1]))
		}
	}
	long := mustBuild(t, begun(nameOf(255)), nameOf(255))
	checkStore(t, long, []impl.StoreOp{compacting, opening, {Kind: impl.StoreCommit, Change: impl.Change{Old: soaOf(nameOf(255), 1), New: soaOf(nameOf(255), 2)}}, compacting})
	if strings.Contains(string(kept(long)), "\xc0") {
		t.Errorf("a journal has a pointer")
	}
}

func TestStoreAny(t *testing.T) {
	r := rand.New(rand.NewSource(147))
	codes := map[int64]int{}
	for n := range 1500 {
		zones, history := historyOf(t, r, apexes()[n%3], 3+n%6, 3)
		ops := mixedOps(r, history, 1+n%25)
		if n%4 == 0 {
			at := r.Intn(len(ops))
			ops[at].Change = cloneChange(ops[at].Change)
			spoilChange(r, zones[0], &ops[at].Change)
		}
		checkStore(t, zones[0], ops)
		outs, _ := impl.RunStore(zones[0], ops)
		for i, o := range outs {
			if ops[i].Kind == impl.StoreCommit || ops[i].Kind == impl.StoreCompact {
				codes[o.Code]++
			}
		}
	}
	for _, code := range []int64{impl.OK, impl.ErrDisk, impl.ErrSerial} {
		if codes[code] < 500 {
			t.Errorf("the codes met are %v", codes)
		}
	}
}
