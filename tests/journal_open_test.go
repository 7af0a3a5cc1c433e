package tests

import (
	"math/rand"
	"slices"
	"strings"
	"testing"

	"loop.example/s01858/impl"
)

// turned is a text one bit of which is turned.
func turned(b string, bit int) string {
	out := []byte(b)
	out[bit/8] ^= 1 << (bit % 8)
	return string(out)
}

func TestOpenJournal(t *testing.T) {
	zones, changes := keptZones(t)
	for n := range zones {
		for from := range n + 1 {
			b := kept(zones[from], changes[from:n]...)
			checkOpen(t, itoa(from)+" to "+itoa(n), b, zones[n], changes[from:n], int64(len(b)), impl.OK)
		}
	}
}

func TestOpenJournalNone(t *testing.T) {
	z, c := zoneWith(t, 1, "@ NS ns"), hostChange(1, 1)
	first := kept(z)
	for tell, b := range map[string]string{
		"no byte":           "",
		"a byte":            first[:1],
		"a length":          first[:4],
		"a length and sum":  first[:8],
		"one byte short":    first[:len(first)-1],
		"bytes of 0":        string(make([]byte, 100)),
		"an empty frame":    framed(""),
		"a mark alone":      framed("Z"),
		"half a count":      framed("Z\x00"),
		"a count alone":     framed("Z\x00\x00"),
		"no record":         framed(keptZone(inEx())),
		"a change":          framed(keptChange(c)),
		"a change first":    framed(keptChange(c)) + first,
		"ahead of the zone": "\x00" + first,
		"the payload alone": first[4 : len(first)-4],
		"a great length":    "\xff\xff\xff\xff" + first[4:],
		"other marks":       framed("z" + first[5:len(first)-4]),
	} {
		checkNoJournal(t, tell, b, impl.ErrDisk)
	}
}

// Payloads whose sum is right, and that are not just those of a valid zone.
func TestOpenJournalOtherPayloads(t *testing.T) {
	z := zoneWith(t, 7, startZone)
	list := impl.ZoneRecords(z)
	payload := keptZone(z.Apex, list...)
	if framed(payload) != kept(z) {
		t.Fatalf("the payload is not that of the zone")
	}
	with := func(do func(list []impl.RR) []impl.RR) string { return keptZone(z.Apex, do(slices.Clone(list))...) }
	for tell, p := range map[string]string{
		"a byte too few":      payload[:len(payload)-1],
		"a byte too many":     payload + "\x00",
		"a record too many":   payload + keptRecord(rrOf(inEx("z"), 1, "abcd")),
		"a count too great":   "Z" + be(int64(len(list)+1), 2) + payload[3:],
		"a count too small":   "Z" + be(int64(len(list)-1), 2) + payload[3:],
		"the greatest count":  "Z\xff\xff" + payload[3:],
		"no apex":             "Z" + payload[1:3] + keptList(list...),
		"a mark too many":     "Z" + payload,
		"another apex":        keptZone(nm("com"), list...),
		"an apex below":       keptZone(inEx("a"), list...),
		"an apex of a label":  keptZone(nm(strings.Repeat("x", 64)), list...),
		"too long an apex":    keptZone(nameOf(256), list...),
		"a pointer as apex":   keptZone("\xc0\x00", list...),
		"an owner by pointer": with(func(l []impl.RR) []impl.RR { l[0].Owner = "\xc0\x03"; return l }),
		"data by pointer":     with(func(l []impl.RR) []impl.RR { l[0].Data = "\xc0\x03"; return l }),
		"too long an owner":   with(func(l []impl.RR) []impl.RR { l[2].Owner = nameOf(256); return l }),
		"another order":       with(func(l []impl.RR) []impl.RR { l[0], l[1] = l[1], l[0]; return l }),
		"other order of data": with(func(l []impl.RR) []impl.RR { l[2], l[3] = l[3], l[2]; return l }),
		"a record twice":      with(func(l []impl.RR) []impl.RR { return slices.Insert(l, 2, l[2]) }),
		"a record twice, too": with(func(l []impl.RR) []impl.RR { return append(l, l[0]) }),
		"letters in a set":    with(func(l []impl.RR) []impl.RR { l[3].Owner = capital(l[3].Owner); return l }),
		"letters of an owner": with(func(l []impl.RR) []impl.RR { l[4].Owner = capital(l[4].Owner); return l }),
		"another class":       with(func(l []impl.RR) []impl.RR { l[2].Class = 3; return l }),
		"too long a time":     with(func(l []impl.RR) []impl.RR { l[2].TTL = 2147483648; return l }),
		"unlike times":        with(func(l []impl.RR) []impl.RR { l[2].TTL = 5; return l }),
		"a meta type":         with(func(l []impl.RR) []impl.RR { l[2].Type = 255; return l }),
		"the type 0":          with(func(l []impl.RR) []impl.RR { l[2].Type = 0; return l }),
		"ill data":            with(func(l []impl.RR) []impl.RR { l[2].Data = "abc"; return l }),
		"no data":             with(func(l []impl.RR) []impl.RR { l[2].Data = ""; return l }),
		"no NS":               with(func(l []impl.RR) []impl.RR { return l[1:] }),
		"no SOA":              with(func(l []impl.RR) []impl.RR { return slices.Delete(l, 1, 2) }),
		"beside a CNAME":      with(func(l []impl.RR) []impl.RR { return append(l, rrOf(inEx("c"), 16, st("x"))) }),
	} {
		checkNoJournal(t, tell, framed(p), impl.ErrDisk)
		checkNoJournal(t, tell+", with a change behind", framed(p)+framed(keptChange(hostChange(7, 1))), impl.ErrDisk)
	}
	// Letters that a zone may have.
	apex := impl.Zone{Apex: nm("EXAMPLE"), Sets: z.Sets}
	checkOpen(t, "an apex's letters", framed(keptZone(nm("EXAMPLE"), list...)), apex, nil, int64(len(payload)+8), impl.OK)
}

func TestOpenJournalMost(t *testing.T) {
	list := begun(root)
	for n := range 499 {
		list = append(list, rrOf(root, 65280, be(int64(n), 2)))
	}
	z := mustBuild(t, list[:500], root)
	b := framed(keptZone(root, impl.ZoneRecords(z)...))
	checkOpen(t, "500 records", b, z, nil, int64(len(b)), impl.OK)
	more := impl.Zone{Apex: root, Sets: slices.Clone(z.Sets)}
	last := &more.Sets[len(more.Sets)-1]
	last.Data = append(slices.Clone(last.Data), be(499, 2))
	var all []impl.RR
	for _, set := range more.Sets {
		for _, data := range set.Data {
			all = append(all, impl.RR{Owner: set.Owner, Type: set.Type, Class: 1, TTL: set.TTL, Data: data})
		}
	}
	checkNoJournal(t, "501 records", framed(keptZone(root, all...)), impl.ErrDisk)
}

// Each bit of the first frame counts.
func TestOpenJournalTurnedZone(t *testing.T) {
	b := kept(zoneWith(t, 7, startZone))
	for bit := range 8 * len(b) {
		checkNoJournal(t, "bit "+itoa(bit), turned(b, bit), impl.ErrDisk)
		checkNoJournal(t, "bit "+itoa(bit)+" with bytes behind", turned(b, bit)+string(make([]byte, 1000)), impl.ErrDisk)
	}
}

// Each bit of a change's frame counts: it and those behind it count for nothing.
func TestOpenJournalTurnedChange(t *testing.T) {
	zones, changes := keptZones(t)
	b := kept(zones[0], changes[:3]...)
	ends := []int{len(kept(zones[0])), len(kept(zones[0], changes[:1]...)), len(kept(zones[0], changes[:2]...)), len(b)}
	for n := range 3 {
		for bit := 8 * ends[n]; bit < 8*ends[n+1]; bit++ {
			checkOpen(t, "bit "+itoa(bit), turned(b, bit), zones[n], changes[:n], int64(ends[n]), impl.OK)
		}
	}
}

// changePayloads are payloads that are not just that of a change.
func changePayloads(c impl.Change) map[string]string {
	payload := keptChange(c)
	ends := "C" + keptList(c.Old, c.New)
	with := func(do func(c *impl.Change)) string {
		out := cloneChange(c)
		do(&out)
		return keptChange(out)
	}
	return map[string]string{
		"no byte":             "",
		"a mark alone":        "C",
		"a byte too few":      payload[:len(payload)-1],
		"a byte too many":     payload + "\x00",
		"another mark":        "c" + payload[1:],
		"the mark of a zone":  "Z" + payload[1:],
		"no SOA at all":       "C\x00\x00\x00\x00",
		"one SOA":             "C" + keptList(c.Old) + "\x00\x00\x00\x00",
		"no count":            ends,
		"half a count":        ends + "\x00",
		"one count":           ends + "\x00\x00",
		"half a count more":   ends + "\x00\x00\x00",
		"a count too great":   ends + "\x00\x01\x00\x00",
		"the greatest count":  ends + "\x00\x00\xff\xff" + keptList(c.Add...),
		"a record too many":   payload + keptList(c.Add...),
		"an owner by pointer": with(func(c *impl.Change) { c.Add[0].Owner = "\xc0\x01" }),
		"no owner":            with(func(c *impl.Change) { c.Add[0].Owner = "" }),
		"too long an owner":   with(func(c *impl.Change) { c.Add[0].Owner = nameOf(256) }),
	}
}

// otherChanges are changes that PatchZone does not take, made of one that it takes.
func otherChanges(c impl.Change) map[string]impl.Change {
	with := func(do func(c *impl.Change)) impl.Change {
		out := cloneChange(c)
		do(&out)
		return out
	}
	return map[string]impl.Change{
		"another Old":      with(func(c *impl.Change) { c.Old.TTL++ }),
		"Old in capitals":  with(func(c *impl.Change) { c.Old.Owner = capital(c.Old.Owner) }),
		"the same serial":  with(func(c *impl.Change) { c.New = c.Old }),
		"a serial ahead":   with(func(c *impl.Change) { c.New = soaOf(c.Old.Owner, 0) }),
		"no SOA":           with(func(c *impl.Change) { c.New.Type = 2 }),
		"an ill SOA":       with(func(c *impl.Change) { c.New.Data = c.New.Data[1:] }),
		"an SOA elsewhere": with(func(c *impl.Change) { c.New.Owner = inEx("a") }),
		"what is not there": with(func(c *impl.Change) {
			c.Del = append(c.Del, rrOf(inEx("none"), 1, "abcd"))
		}),
		"Old in Del":      with(func(c *impl.Change) { c.Del = append(c.Del, c.Old) }),
		"New in Add":      with(func(c *impl.Change) { c.Add = append(c.Add, c.New) }),
		"another class":   with(func(c *impl.Change) { c.Add[0].Class = 3 }),
		"too long a time": with(func(c *impl.Change) { c.Add[0].TTL = 2147483648 }),
		"a meta type":     with(func(c *impl.Change) { c.Add[0].Type = 255 }),
		"outside":         with(func(c *impl.Change) { c.Add[0].Owner = nm("com") }),
		"no address":      with(func(c *impl.Change) { c.Add[0].Type, c.Add[0].Data = 1, "abc" }),
		"an empty one":    with(func(c *impl.Change) { c.Add[0].Type, c.Add[0].Data = 1, "" }),
		"a CNAME beside":  with(func(c *impl.Change) { c.Add[0] = rrOf(c.Old.Owner, 5, nm("x")) }),
		"501 to be added": with(func(c *impl.Change) {
			for range 500 {
				c.Add = append(c.Add, c.Add[0])
			}
		}),
		"501 to be dropped": with(func(c *impl.Change) {
			for range 501 {
				c.Del = append(c.Del, c.Add[0])
			}
		}),
	}
}

// Frames that are whole, with their right sum, and no change that fits: what is behind counts for nothing.
func TestOpenJournalOtherChanges(t *testing.T) {
	z := mustBuild(t, begun(inEx()), inEx())
	c, next := hostChange(1, 1), hostChange(2, 1)
	behind, _ := patchOf(z, c)
	ills := changePayloads(c)
	ills["a zone"] = keptZone(z.Apex, impl.ZoneRecords(z)...)
	ills["the next change"] = keptChange(next)
	for tell, ill := range otherChanges(c) {
		ills[tell] = keptChange(ill)
	}
	for tell, p := range ills {
		ahead := kept(z)
		checkOpen(t, tell, ahead+framed(p), z, nil, int64(len(ahead)), impl.OK)
		checkOpen(t, tell+" ahead of one that fits", ahead+framed(p)+framed(keptChange(c)), z, nil, int64(len(ahead)), impl.OK)
		ahead = kept(z, c)
		if tell == "the next change" {
			continue
		}
		checkOpen(t, tell+" behind a change", ahead+framed(p)+framed(keptChange(next)), behind, []impl.Change{c}, int64(len(ahead)), impl.OK)
	}
	checkOpen(t, "a change twice", kept(z, c, c, next), behind, []impl.Change{c}, int64(len(kept(z, c))), impl.OK)
}

func TestOpenJournalHistory(t *testing.T) {
	z := mustBuild(t, begun(inEx()), inEx())
	changes := hostChanges(1, 42)
	zones := []impl.Zone{z}
	for i, c := range changes {
		next, _ := patchOf(zones[i], c)
		zones = append(zones, next)
	}
	for _, n := range []int{39, 40, 41, 42} {
		count := min(n, 40)
		used := len(kept(z, changes[:count]...))
		checkOpen(t, itoa(n)+" changes", kept(z, changes[:n]...), zones[count], changes[:count], int64(used), impl.OK)
	}
}

func TestOpenJournalSize(t *testing.T) {
	z, c := mustBuild(t, begun(inEx()), inEx()), hostChange(1, 1)
	behind, _ := patchOf(z, c)
	b := kept(z, c)
	for size, code := range map[int]int64{399999: impl.OK, 400000: impl.OK, 400001: impl.ErrSize, 4000000: impl.ErrSize} {
		long := b + string(make([]byte, size-len(b)))
		none := string(make([]byte, size))
		if code == impl.OK {
			checkOpen(t, itoa(size)+" bytes", long, behind, []impl.Change{c}, int64(len(b)), impl.OK)
			checkNoJournal(t, itoa(size)+" bytes of none", none, impl.ErrDisk)
			continue
		}
		checkNoJournal(t, itoa(size)+" bytes", long, code)
		checkNoJournal(t, itoa(size)+" bytes of none", none, code)
	}
	great := greatZone(t, 400000-len(framed(keptChange(c))))
	full := kept(great, c)
	behind, _ = patchOf(great, c)
	checkOpen(t, "all full", full, behind, []impl.Change{c}, 400000, impl.OK)
	checkNoJournal(t, "a byte more", full+"\x00", impl.ErrSize)
}

// Arbitrary journals, most of them spoilt somewhere, also with their sums mended.
func TestOpenJournalAny(t *testing.T) {
	r := rand.New(rand.NewSource(145))
	met := map[int]int{}
	for n := range 3000 {
		zones, history := historyOf(t, r, apexes()[n%3], n%5, 3)
		payloads := []string{keptZone(zones[0].Apex, impl.ZoneRecords(zones[0])...)}
		for _, c := range history {
			payloads = append(payloads, keptChange(c))
		}
		if n%3 == 1 {
			at := r.Intn(len(payloads))
			payloads[at] = string(bent(r, []byte(payloads[at])))
		}
		b := ""
		for _, p := range payloads {
			b += framed(p)
		}
		if n%3 == 2 {
			b = string(bent(r, []byte(b)))
		}
		z, changes, used, code := openOf(b)
		checkOpen(t, "journal "+itoa(n), b, z, changes, used, code)
		if code == impl.OK {
			met[len(changes)]++
		} else {
			met[-1]++
		}
	}
	if met[-1] < 300 || met[0] < 300 || met[1] < 200 || met[4] < 100 {
		t.Errorf("the counts of changes met are %v", met)
	}
}
