package tests

import (
	"fmt"
	"math/rand"
	"slices"
	"testing"

	"loop.example/s01858/impl"
)

func sameChange(a, b impl.Change) bool {
	return a.Old == b.Old && a.New == b.New && slices.Equal(a.Del, b.Del) && slices.Equal(a.Add, b.Add)
}

// cloneChange is a change in memory of its own.
func cloneChange(c impl.Change) impl.Change {
	c.Del, c.Add = slices.Clone(c.Del), slices.Clone(c.Add)
	return c
}

// tellChange writes a change for a message of a test.
func tellChange(c impl.Change) string {
	return fmt.Sprintf("from %s to %s: drop %s, add %s", tellRecords([]impl.RR{c.Old}), tellRecords([]impl.RR{c.New}), tellRecords(c.Del), tellRecords(c.Add))
}

// soaIn is the SOA of a valid zone.
func soaIn(z impl.Zone) impl.RR { return recordsAt(z, z.Apex, impl.TypeSOA)[0] }

// isNoSOA tells whether a record is of another type.
func isNoSOA(rr impl.RR) bool { return rr.Type != impl.TypeSOA }

// othersIn is the records of a zone but its SOA.
func othersIn(z impl.Zone) []impl.RR {
	return dropThat(impl.ZoneRecords(z), func(rr impl.RR) bool { return !isNoSOA(rr) })
}

// serialIn is the serial of a record, if it is an SOA whose data is one.
func serialIn(rr impl.RR) (int64, bool) {
	if isNoSOA(rr) || !isData(impl.TypeSOA, rr.Data) {
		return 0, false
	}
	return beAt(rr.Data, len(rr.Data)-20, 4), true
}

// diffOf says chapter 13 on DiffZones once more.
func diffOf(old, new impl.Zone) (impl.Change, int64) {
	if impl.CheckZone(old) != impl.OK || impl.CheckZone(new) != impl.OK || old.Apex != new.Apex {
		return impl.Change{}, impl.ErrForm
	}
	if !isAfter(serialOf(old), serialOf(new)) {
		return impl.Change{}, impl.ErrSerial
	}
	had, has := othersIn(old), othersIn(new)
	return impl.Change{
		Old: soaIn(old), New: soaIn(new),
		Del: dropThat(had, func(rr impl.RR) bool { return slices.Contains(has, rr) }),
		Add: dropThat(has, func(rr impl.RR) bool { return slices.Contains(had, rr) }),
	}, impl.OK
}

// patchOf says chapter 13 on PatchZone once more.
func patchOf(z impl.Zone, c impl.Change) (impl.Zone, int64) {
	if impl.CheckZone(z) != impl.OK || len(c.Del) > 500 || len(c.Add) > 500 {
		return impl.Zone{}, impl.ErrForm
	}
	to, ok := serialIn(c.New)
	if c.Old != soaIn(z) || !ok || !isAfter(serialOf(z), to) {
		return impl.Zone{}, impl.ErrSerial
	}
	list := othersIn(z)
	for _, rr := range c.Del {
		at := slices.Index(list, rr)
		if at < 0 {
			return impl.Zone{}, impl.ErrData
		}
		list = slices.Delete(list, at, at+1)
	}
	for _, rr := range c.Add {
		if rr.Type == impl.TypeSOA {
			return impl.Zone{}, impl.ErrData
		}
		list = append(list, rr)
	}
	out, code, _ := zoneOf(append([]impl.RR{c.New}, list...), z.Apex)
	return out, code
}

// outOf says chapter 13 on TransferOut once more.
func outOf(z impl.Zone, history []impl.Change, qtype, serial int64) ([]impl.RR, int64) {
	if impl.CheckZone(z) != impl.OK || len(history) > 40 || serial < 0 || serial > 4294967295 {
		return nil, impl.ErrForm
	}
	// From the zone back to the eldest change.
	soa, from := soaIn(z), -1
	next := soa
	for i := len(history) - 1; i >= 0; i-- {
		c := history[i]
		if c.New != next || len(c.Del) > 500 || len(c.Add) > 500 {
			return nil, impl.ErrForm
		}
		next = c.Old
		if old, ok := serialIn(c.Old); ok && old == serial && from < 0 {
			from = i
		}
	}
	switch {
	case qtype != 251 && qtype != 252:
		return nil, impl.ErrType
	case qtype == 251 && !isAfter(serial, serialOf(z)):
		return []impl.RR{soa}, impl.OK
	case qtype == 252 || from < 0:
		return append(append([]impl.RR{soa}, othersIn(z)...), soa), impl.OK
	}
	out := []impl.RR{soa}
	for _, c := range history[from:] {
		out = append(out, c.Old)
		out = append(out, c.Del...)
		out = append(out, c.New)
		out = append(out, c.Add...)
	}
	return append(out, soa), impl.OK
}

// sent is a message of a transfer.
func sent(id int64, questions []impl.Question, list ...impl.RR) impl.Message {
	return impl.Message{Head: impl.Head{ID: id, QR: true, AA: true}, Questions: questions, Answer: list}
}

// splitOf says chapter 13 on SplitTransfer once more.
func splitOf(id int64, q impl.Question, list []impl.RR, limit int64) ([]string, int64) {
	questions := []impl.Question{q}
	if limit < 512 || limit > 65535 || !isValid(sent(id, questions)) {
		return nil, impl.ErrForm
	}
	for _, rr := range list {
		if !isValid(answers(rr)) {
			return nil, impl.ErrForm
		}
	}
	if len(list) > 3000 {
		return nil, impl.ErrCount
	}
	fits := func(n int) bool {
		return n+len(questions) <= 400 && int64(len(layMessage(sent(id, questions, list[:n]...), false))) <= limit
	}
	var out []string
	for len(list) > 0 || len(out) == 0 {
		n := 0
		for n < len(list) && fits(n+1) {
			n++
		}
		if n == 0 && len(list) > 0 {
			return nil, impl.ErrSize
		}
		out = append(out, layMessage(sent(id, questions, list[:n]...), false))
		list, questions = list[n:], nil
	}
	return out, impl.OK
}

// laidIn is the answer records of messages, by chapter 13 on TransferIn; false if one of them is ill.
func laidIn(q impl.Question, id int64, msgs [][]byte) ([]impl.RR, bool) {
	var list []impl.RR
	for i, b := range msgs {
		m, code := messageOf(string(b))
		h := m.Head
		if code != impl.OK || h.ID != id || !h.QR || !h.AA || h.Op != 0 || h.Code != 0 || h.TC || len(m.Authority)+len(m.Extra) > 0 {
			return nil, false
		}
		if i > 0 && len(m.Questions) > 0 || i == 0 && (len(m.Questions) != 1 || m.Questions[0] != q) {
			return nil, false
		}
		list = append(list, m.Answer...)
	}
	return list, true
}

// cutOf cuts records into changes, by the places of their SOAs; false if the last one has no New.
func cutOf(list []impl.RR) ([]impl.Change, bool) {
	var runs [][]impl.RR
	for _, rr := range list {
		if rr.Type == impl.TypeSOA {
			runs = append(runs, nil)
		}
		runs[len(runs)-1] = append(runs[len(runs)-1], rr)
	}
	var out []impl.Change
	for i := 0; i+1 < len(runs); i += 2 {
		out = append(out, impl.Change{Old: runs[i][0], Del: runs[i][1:], New: runs[i+1][0], Add: runs[i+1][1:]})
	}
	return out, len(runs)%2 == 0
}

// inOf says chapter 13 on TransferIn once more.
func inOf(z impl.Zone, q impl.Question, id int64, msgs [][]byte) (impl.Zone, int64) {
	isAsked := q.Type == 251 || q.Type == 252
	if impl.CheckZone(z) != impl.OK || !isAsked || q.Name != z.Apex || len(msgs) < 1 || len(msgs) > 3000 {
		return impl.Zone{}, impl.ErrForm
	}
	list, ok := laidIn(q, id, msgs)
	if !ok {
		return impl.Zone{}, impl.ErrData
	}
	if len(list) == 0 || list[0].Owner != q.Name {
		return impl.Zone{}, impl.ErrSOA
	}
	serial, ok := serialIn(list[0])
	n := len(list)
	isAlone := n == 1 && q.Type == 251 && !isAfter(serialOf(z), serial)
	switch {
	case !ok || n == 1 && !isAlone || list[0] != list[n-1]:
		return impl.Zone{}, impl.ErrSOA
	case isAlone:
		return z, impl.OK
	case q.Type == 252 || list[1] != soaIn(z):
		out, code, _ := zoneOf(list[:n-1], z.Apex)
		return out, code
	}
	changes, ok := cutOf(list[1 : n-1])
	if !ok {
		return impl.Zone{}, impl.ErrData
	}
	for _, c := range changes {
		next, code := patchOf(z, c)
		if code != impl.OK {
			return impl.Zone{}, code
		}
		z = next
	}
	if soaIn(z) != list[0] {
		return impl.Zone{}, impl.ErrSOA
	}
	return z, impl.OK
}

// bytesOf is messages as they are sent; nothing asks whether they are right.
func bytesOf(t *testing.T, msgs ...impl.Message) [][]byte {
	t.Helper()
	var out [][]byte
	for _, m := range msgs {
		b, code := impl.Encode(m)
		if code != impl.OK {
			t.Fatalf("Encode = %d", code)
		}
		out = append(out, b)
	}
	return out
}

// ownSOA is a zone whose apex has the sets of an owner in the very letters of the apex.
func ownSOA(t *testing.T, z impl.Zone) impl.Zone {
	t.Helper()
	soa := soaIn(z)
	soa.Owner = z.Apex
	return mustBuild(t, append([]impl.RR{soa}, othersIn(z)...), z.Apex)
}

// alter makes a list of records that is somewhat another one.
func alter(r *rand.Rand, list []impl.RR, apex string) []impl.RR {
	list = slices.Clone(list)
	at := r.Intn(len(list))
	rr := list[at]
	switch r.Intn(7) {
	case 0:
		return slices.Delete(list, at, at+1)
	case 1, 2:
		return append(list, recordIn(r, apex))
	case 3:
		for i, o := range list {
			if small(o.Owner) == small(rr.Owner) && o.Type == rr.Type {
				list[i].TTL = []int64{0, 60, 2147483647}[r.Intn(3)]
			}
		}
	case 4:
		list[at] = inLetters(r, rr)
	case 5:
		owner := inLetters(r, rr).Owner
		for i, o := range list {
			if small(o.Owner) == small(rr.Owner) {
				list[i].Owner = owner
			}
		}
	case 6:
		return dropThat(list, func(o impl.RR) bool { return small(o.Owner) == small(rr.Owner) })
	}
	return list
}

// laterZone makes a zone that comes behind another, and is often like it.
func laterZone(t *testing.T, r *rand.Rand, z impl.Zone, most int) impl.Zone {
	t.Helper()
	list := impl.ZoneRecords(z)
	for range r.Intn(most + 1) {
		more := alter(r, list, z.Apex)
		if _, code, _ := zoneOf(more, z.Apex); code == impl.OK {
			list = more
		}
	}
	ahead := []int64{1, 1, 2, 1000, 2147483647}[r.Intn(5)]
	for i, rr := range list {
		if rr.Type == impl.TypeSOA {
			list[i].Data, _ = impl.WithSerial(rr.Data, (serialOf(z)+ahead)%4294967296)
		}
	}
	return mustBuild(t, list, z.Apex)
}

// historyOf makes zones that come one behind the other, each with its SOA in the letters of the apex, and the changes
// between them.
func historyOf(t *testing.T, r *rand.Rand, apex string, changes, most int) ([]impl.Zone, []impl.Change) {
	t.Helper()
	zones := []impl.Zone{ownSOA(t, changeZone(t, r, apex, 8))}
	var history []impl.Change
	for i := range changes {
		zones = append(zones, ownSOA(t, laterZone(t, r, zones[i], most)))
		c, _ := diffOf(zones[i], zones[i+1])
		history = append(history, c)
	}
	return zones, history
}

// noZones are zones that are not valid, made of one that is.
func noZones(z impl.Zone) map[string]impl.Zone {
	bend := func(do func(z *impl.Zone)) impl.Zone {
		out := cloneZone(z)
		do(&out)
		return out
	}
	return map[string]impl.Zone{
		"no zone":     {},
		"no apex":     bend(func(z *impl.Zone) { z.Apex = "" }),
		"no sets":     {Apex: z.Apex},
		"no NS":       bend(func(z *impl.Zone) { z.Sets = slices.Delete(z.Sets, 0, 1) }),
		"sets twice":  bend(func(z *impl.Zone) { z.Sets = append(z.Sets, z.Sets...) }),
		"no data":     bend(func(z *impl.Zone) { z.Sets[0].Data = nil }),
		"a time":      bend(func(z *impl.Zone) { z.Sets[0].TTL = -1 }),
		"other order": bend(func(z *impl.Zone) { slices.Reverse(z.Sets) }),
	}
}
