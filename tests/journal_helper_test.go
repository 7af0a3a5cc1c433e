package tests

import (
	"crypto/sha256"
	"fmt"
	"math/rand"
	"slices"
	"testing"

	"loop.example/s01858/impl"
)

// keptRecord is a record as it is kept in a journal.
func keptRecord(rr impl.RR) string {
	return rr.Owner + be(rr.Type, 2) + be(rr.Class, 2) + be(rr.TTL, 4) + be(int64(len(rr.Data)), 2) + rr.Data
}

// keptList is records as they are kept, without their count.
func keptList(list ...impl.RR) string {
	out := ""
	for _, rr := range list {
		out += keptRecord(rr)
	}
	return out
}

// keptZone is the payload of records and an apex; nothing asks whether they are a zone.
func keptZone(apex string, list ...impl.RR) string {
	return "Z" + be(int64(len(list)), 2) + apex + keptList(list...)
}

// keptChange is the payload of a change.
func keptChange(c impl.Change) string {
	return "C" + keptRecord(c.Old) + keptRecord(c.New) + be(int64(len(c.Del)), 2) + keptList(c.Del...) + be(int64(len(c.Add)), 2) + keptList(c.Add...)
}

// framed is a payload in its frame.
func framed(payload string) string {
	sum := sha256.Sum256([]byte(payload))
	return be(int64(len(payload)), 4) + payload + string(sum[:4])
}

// kept is the journal of a zone and of changes; nothing asks whether they fit.
func kept(z impl.Zone, changes ...impl.Change) string {
	out := framed(keptZone(z.Apex, impl.ZoneRecords(z)...))
	for _, c := range changes {
		out += framed(keptChange(c))
	}
	return out
}

// keptReader takes what is kept off the front of a payload; ill if something lacks.
type keptReader struct {
	rest string
	ill  bool
}

func (k *keptReader) bytes(n int) string {
	if k.ill || n > len(k.rest) {
		k.ill = true
		return ""
	}
	out := k.rest[:n]
	k.rest = k.rest[n:]
	return out
}

func (k *keptReader) number(n int) int64 {
	b := k.bytes(n)
	return beAt(b, 0, len(b))
}

func (k *keptReader) name() string {
	out := ""
	for !k.ill {
		label := k.bytes(1)
		if k.ill || label == root {
			break
		}
		out += label + k.bytes(int(label[0]))
	}
	k.ill = k.ill || !impl.NameOK(out+root)
	return out + root
}

func (k *keptReader) list(count int64) []impl.RR {
	var out []impl.RR
	for n := int64(0); n < count && !k.ill; n++ {
		rr := impl.RR{Owner: k.name(), Type: k.number(2), Class: k.number(2), TTL: k.number(4)}
		rr.Data = k.bytes(int(k.number(2)))
		out = append(out, rr)
	}
	return out
}

// ended tells whether all was right, and nothing is left.
func (k *keptReader) ended() bool { return !k.ill && k.rest == "" }

// frameAt is the payload of the frame at a place, and the place behind it; false if there is none.
func frameAt(b string, at int) (string, int, bool) {
	if len(b) < at+8 || int64(len(b)-at-8) < beAt(b, at, 4) {
		return "", 0, false
	}
	end := at + 4 + int(beAt(b, at, 4))
	return b[at+4 : end], end + 4, framed(b[at+4:end]) == b[at:end+4]
}

// openOf says chapter 14 on OpenJournal once more.
func openOf(b string) (impl.Zone, []impl.Change, int64, int64) {
	if len(b) > 400000 {
		return impl.Zone{}, nil, 0, impl.ErrSize
	}
	payload, used, ok := frameAt(b, 0)
	k := &keptReader{rest: payload}
	mark, count := k.bytes(1), k.number(2)
	apex := k.name()
	list := k.list(count)
	if !ok || mark != "Z" || !k.ended() {
		return impl.Zone{}, nil, 0, impl.ErrDisk
	}
	z, code, _ := zoneOf(list, apex)
	if code != impl.OK || !slices.Equal(impl.ZoneRecords(z), list) {
		return impl.Zone{}, nil, 0, impl.ErrDisk
	}
	var changes []impl.Change
	for len(changes) < 40 {
		payload, end, ok := frameAt(b, used)
		k := &keptReader{rest: payload}
		mark, ends := k.bytes(1), k.list(2)
		del := k.list(k.number(2))
		add := k.list(k.number(2))
		if !ok || mark != "C" || !k.ended() {
			break
		}
		c := impl.Change{Old: ends[0], New: ends[1], Del: del, Add: add}
		next, code := patchOf(z, c)
		if code != impl.OK {
			break
		}
		z, changes, used = next, append(changes, c), end
	}
	return z, changes, int64(used), impl.OK
}

// appendOf says chapter 14 on AppendChange once more.
func appendOf(journal string, c impl.Change) (string, int64) {
	z, changes, used, code := openOf(journal)
	switch {
	case code != impl.OK:
		return "", code
	case used != int64(len(journal)):
		return "", impl.ErrDisk
	case len(changes) == 40:
		return "", impl.ErrCount
	}
	for _, rr := range slices.Concat([]impl.RR{c.Old, c.New}, c.Del, c.Add) {
		if !isValid(answers(rr)) {
			return "", impl.ErrForm
		}
	}
	if _, code := patchOf(z, c); code != impl.OK {
		return "", code
	}
	out := journal + framed(keptChange(c))
	if len(out) > 400000 {
		return "", impl.ErrSize
	}
	return out, impl.OK
}

// scriptedDisk is a disk that chapter 14 is said of once more. `new` never shows but by its name, so only what is
// renamed to `journal` is kept of it.
type scriptedDisk struct {
	journal string
	// synced is how much of journal no crash takes.
	synced int
	// told is the answer of the last state that was answered OK.
	told        impl.StoreOut
	down        bool
	steps, keep int64
}

// crashes tells whether the disk crashes in place of the next step.
func (d *scriptedDisk) crashes() bool {
	if d.steps < 1 {
		return false
	}
	d.steps--
	if d.steps > 0 {
		return false
	}
	d.crash(d.keep)
	return true
}

func (d *scriptedDisk) crash(keep int64) {
	lost := int64(len(d.journal)-d.synced) - max(keep, 0)
	d.journal = d.journal[:len(d.journal)-int(max(lost, 0))]
	d.synced, d.down, d.steps = len(d.journal), true, 0
}

// know tells what the journal says of its zone and changes.
func (d *scriptedDisk) know() impl.Zone {
	z, changes, _, _ := openOf(d.journal)
	d.told.Serial, d.told.Changes = serialOf(z), int64(len(changes))
	return z
}

func (d *scriptedDisk) commit(c impl.Change) int64 {
	next, code := appendOf(d.journal, c)
	if d.down || code != impl.OK {
		return map[bool]int64{true: impl.ErrDisk, false: code}[d.down]
	}
	if d.crashes() {
		return impl.ErrDisk
	}
	d.journal = next
	if d.crashes() {
		return impl.ErrDisk
	}
	d.synced = len(next)
	d.know()
	return impl.OK
}

func (d *scriptedDisk) compact() int64 {
	if d.down || d.crashes() || d.crashes() || d.crashes() || d.crashes() {
		return impl.ErrDisk
	}
	d.journal = kept(d.know())
	d.synced = len(d.journal)
	d.know()
	return impl.OK
}

func (d *scriptedDisk) do(op impl.StoreOp) impl.StoreOut {
	code := int64(impl.OK)
	switch op.Kind {
	case 1:
		code = d.commit(op.Change)
	case 2:
		code = d.compact()
	case 3:
		d.steps, d.keep = op.Steps, op.Keep
	case 4:
		if !d.down {
			d.crash(0)
		}
		_, _, used, _ := openOf(d.journal)
		d.journal, d.synced, d.down = d.journal[:used], int(used), false
		d.know()
	default:
		code = impl.ErrForm
	}
	out := d.told
	out.Code, out.Bytes = code, int64(len(d.journal))
	return out
}

// storeOf says chapter 14 on RunStore and StoreImage once more.
func storeOf(z impl.Zone, ops []impl.StoreOp) ([]impl.StoreOut, string, int64) {
	if impl.CheckZone(z) != impl.OK {
		return nil, "", impl.ErrForm
	}
	d := &scriptedDisk{journal: kept(z)}
	d.synced = len(d.journal)
	if len(d.journal) > 400000 {
		return nil, "", impl.ErrSize
	}
	if len(ops) > 200 {
		return nil, "", impl.ErrCount
	}
	d.know()
	var out []impl.StoreOut
	for _, op := range ops {
		out = append(out, d.do(op))
	}
	return out, d.journal, impl.OK
}

// Operations on a disk.
var (
	compacting = impl.StoreOp{Kind: impl.StoreCompact}
	opening    = impl.StoreOp{Kind: impl.StoreOpen}
)

func committing(c impl.Change) impl.StoreOp {
	return impl.StoreOp{Kind: impl.StoreCommit, Change: c}
}

func arming(steps, keep int64) impl.StoreOp {
	return impl.StoreOp{Kind: impl.StoreArm, Steps: steps, Keep: keep}
}

// tellOps writes operations for a message of a test.
func tellOps(ops []impl.StoreOp) string {
	out := ""
	for _, op := range ops {
		switch op.Kind {
		case impl.StoreCommit:
			serial, _ := serialIn(op.Change.New)
			out += fmt.Sprintf(" commit(%d)", serial)
		case impl.StoreArm:
			out += fmt.Sprintf(" arm(%d,%d)", op.Steps, op.Keep)
		default:
			out += fmt.Sprintf(" kind(%d)", op.Kind)
		}
	}
	return out
}

// checkStore holds the answers and the image of operations against the second reading.
func checkStore(t *testing.T, z impl.Zone, ops []impl.StoreOp) {
	t.Helper()
	want, image, code := storeOf(z, ops)
	if got, gotCode := impl.RunStore(z, ops); gotCode != code || !slices.Equal(got, want) {
		t.Fatalf("RunStore(%s) = %+v, %d, want %+v, %d", tellOps(ops), got, gotCode, want, code)
	}
	if got, gotCode := impl.StoreImage(z, ops); gotCode != code || string(got) != image {
		t.Fatalf("StoreImage(%s) = %d bytes, %d, want %d, %d", tellOps(ops), len(got), gotCode, len(image), code)
	}
}

// checkOpen holds what is read of a journal against what it should be.
func checkOpen(t *testing.T, tell, b string, z impl.Zone, changes []impl.Change, used, code int64) {
	t.Helper()
	gotZone, gotChanges, gotUsed, gotCode := impl.OpenJournal([]byte(b))
	if gotCode != code || gotUsed != used || !sameZone(gotZone, z) || !slices.EqualFunc(gotChanges, changes, sameChange) {
		t.Errorf("%s: OpenJournal = %s, %d changes, %d bytes, %d, want %s, %d changes, %d bytes, %d",
			tell, tellZone(gotZone), len(gotChanges), gotUsed, gotCode, tellZone(z), len(changes), used, code)
	}
}

// checkNoJournal holds that bytes are no journal.
func checkNoJournal(t *testing.T, tell, b string, code int64) {
	t.Helper()
	checkOpen(t, tell, b, impl.Zone{}, nil, 0, code)
}

// checkAppend holds the journal behind a change against what it should be.
func checkAppend(t *testing.T, tell, journal string, c impl.Change, want string, code int64) {
	t.Helper()
	if got, gotCode := impl.AppendChange([]byte(journal), c); gotCode != code || string(got) != want {
		t.Errorf("%s: AppendChange = %d bytes, %d, want %d, %d", tell, len(got), gotCode, len(want), code)
	}
}

// changesBetween is the changes that lead from each zone to the next.
func changesBetween(zones []impl.Zone) []impl.Change {
	var out []impl.Change
	for i := range zones[1:] {
		c, _ := diffOf(zones[i], zones[i+1])
		out = append(out, c)
	}
	return out
}

// keptZones are zones one behind the other, and the changes that lead from each to the next: they add, drop, replace,
// change a time, letters, or nothing but the serial, and go round all serials.
func keptZones(t *testing.T) ([]impl.Zone, []impl.Change) {
	t.Helper()
	var zones []impl.Zone
	for i, text := range []string{
		"@ NS ns", "@ NS ns\na A 192.0.2.1", "@ NS ns\na A 192.0.2.1\na A 192.0.2.2\nb TXT x", "@ NS ns\na A 192.0.2.2\nc TXT x",
		"@ NS ns\na 5 A 192.0.2.2\nC TXT X", "@ NS ns\na 5 A 192.0.2.2\nC TXT X", "@ NS ns",
	} {
		zones = append(zones, zoneWith(t, (4294967293+int64(i))%4294967296, text))
	}
	return zones, changesBetween(zones)
}

// hostChange is the change from a serial to the next that adds a host, whose text has some bytes.
func hostChange(serial int64, size int) impl.Change {
	host := rrOf(inEx("h"+itoa(int(serial))), 65280, string(make([]byte, size)))
	return impl.Change{Old: soaOf(inEx(), serial), New: soaOf(inEx(), serial+1), Add: []impl.RR{host}}
}

// hostChanges is so many changes, the first from a serial on.
func hostChanges(serial int64, n int) []impl.Change {
	var out []impl.Change
	for i := range int64(n) {
		out = append(out, hostChange(serial+i, 1))
	}
	return out
}

// greatZone is a zone with the serial 1 whose journal has so many bytes.
func greatZone(t *testing.T, size int) impl.Zone {
	t.Helper()
	list := begun(inEx())
	for n := 0; size-len(framed(keptZone(inEx(), list...))) > 60000; n++ {
		list = append(list, rrOf(inEx("great"), 65280, itoa(n)+string(make([]byte, 50000))))
	}
	last := rrOf(inEx("last"), 65280, "")
	last.Data = string(make([]byte, size-len(framed(keptZone(inEx(), append(list, last)...)))))
	return mustBuild(t, append(list, last), inEx())
}

// mixedOps makes operations of all kinds on the journal of a zone, whose commits mostly fit.
func mixedOps(r *rand.Rand, history []impl.Change, n int) []impl.StoreOp {
	var out []impl.StoreOp
	at := 0
	for range n {
		switch r.Intn(12) {
		case 0, 1:
			out = append(out, compacting)
		case 2, 3:
			out = append(out, opening)
		case 4, 5:
			out = append(out, arming(int64(r.Intn(8)-1), []int64{-1, 0, 1, int64(r.Intn(400)), 100000}[r.Intn(5)]))
		case 6:
			out = append(out, impl.StoreOp{Kind: []int64{0, 5, -1, 99}[r.Intn(4)], Change: history[0], Steps: 1})
		case 7:
			// One that may be behind already, or still ahead.
			at = r.Intn(len(history))
			fallthrough
		default:
			out = append(out, committing(history[at%len(history)]))
			if r.Intn(8) > 0 {
				at++
			}
		}
	}
	return out
}
