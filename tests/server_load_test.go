package tests

import (
	"fmt"
	"math/rand"
	"strings"
	"testing"

	"loop.example/s01858/impl"
)

// loaded is a text that makes a zone.
func loaded(z impl.Zone) impl.Loaded { return impl.Loaded{Zone: z, Stage: 3} }

func TestLoadZone(t *testing.T) {
	soa := "SOA ns admin 7 7200 900 86400 300\n"
	set := func(owner string, rtype, ttl int64, data ...string) impl.Set {
		return impl.Set{Owner: owner, Type: rtype, TTL: ttl, Data: data}
	}
	soaData := func(origin string) string {
		return st("ns") + origin + st("admin") + origin + be(7, 4) + be(7200, 4) + be(900, 4) + be(86400, 4) + be(300, 4)
	}
	for _, c := range []struct {
		tell, text, origin string
		want               impl.Zone
	}{
		{"an origin", "@ 5 " + soa + "@ 6 NS ns", inEx(), impl.Zone{Apex: inEx(), Sets: []impl.Set{
			set(inEx(), 2, 6, inEx("ns")), set(inEx(), 6, 5, soaData(inEx()))}}},
		{"the root", "@ 5 " + soa + "@ 6 NS ns", root, impl.Zone{Apex: root, Sets: []impl.Set{
			set(root, 2, 6, nm("ns")), set(root, 6, 5, soaData(root))}}},
		{"an origin of its own", "$ORIGIN x.\n$TTL 5\n@ " + soa + " NS ns", inEx(), impl.Zone{Apex: nm("x"), Sets: []impl.Set{
			set(nm("x"), 2, 5, nm("ns", "x")), set(nm("x"), 6, 5, soaData(nm("x")))}}},
		{"an apex below the origin", "$TTL 5\nz " + soa + " NS ns", inEx(), impl.Zone{Apex: inEx("z"), Sets: []impl.Set{
			set(inEx("z"), 2, 5, inEx("ns")), set(inEx("z"), 6, 5, soaData(inEx()))}}},
		{"the SOA's letters", "$ORIGIN .\n$TTL 5\nExample " + soa + "eXAMPLE NS ns", "", impl.Zone{Apex: nm("Example"), Sets: []impl.Set{
			set(nm("Example"), 2, 5, nm("ns")), set(nm("Example"), 6, 5, soaData(root))}}},
		{"other letters ahead of the SOA", "$ORIGIN .\n$TTL 5\neXAMPLE NS ns\nExample " + soa, "", impl.Zone{Apex: nm("Example"), Sets: []impl.Set{
			set(nm("eXAMPLE"), 2, 5, nm("ns")), set(nm("eXAMPLE"), 6, 5, soaData(root))}}},
		{"the same SOA in other letters", "$ORIGIN .\n$TTL 5\nExample " + soa + " NS ns\nexample " + soa, "", impl.Zone{Apex: nm("Example"), Sets: []impl.Set{
			set(nm("Example"), 2, 5, nm("ns")), set(nm("Example"), 6, 5, soaData(root))}}},
		{"the SOA last", "$TTL 5\nwww A 1.2.3.4\n@ NS ns\n@ " + soa, inEx(), impl.Zone{Apex: inEx(), Sets: []impl.Set{
			set(inEx(), 2, 5, inEx("ns")), set(inEx(), 6, 5, soaData(inEx())), set(inEx("www"), 1, 5, "\x01\x02\x03\x04")}}},
		{"twice the same", "$TTL 5\n@ " + soa + "@ NS ns\n@ NS NS\n@ " + soa, inEx(), impl.Zone{Apex: inEx(), Sets: []impl.Set{
			set(inEx(), 2, 5, inEx("ns")), set(inEx(), 6, 5, soaData(inEx()))}}},
	} {
		if got := impl.LoadZone(c.text, c.origin); !sameLoaded(got, loaded(c.want)) {
			t.Errorf("%s: LoadZone(%q, %q) = %s, want %s", c.tell, c.text, c.origin, tellLoaded(got), tellZone(c.want))
		}
	}
	for _, origin := range []string{"", root, inEx(), nm("other")} {
		checkLoad(t, exampleZone, origin, loaded(docZone(t)))
	}
}

// A text that can't be read: the code and the line.
func TestLoadZoneStage1(t *testing.T) {
	ahead := "$TTL 5\n@ SOA ns admin 7 1 1 1 1\n@ NS ns\n"
	for _, c := range []struct {
		line string
		code int64
	}{
		{"\"a", impl.ErrQuote}, {"(", impl.ErrParen}, {")", impl.ErrParen}, {"a 5 6 A 1.2.3.4", impl.ErrWord}, {"a", impl.ErrWord},
		{"$INCLUDE x", impl.ErrDirective}, {"$TTL", impl.ErrWord}, {"a CH A 1.2.3.4", impl.ErrClass}, {"a NOTHING x", impl.ErrType},
		{"a ANY x", impl.ErrType}, {"a A 1.2.3", impl.ErrData}, {"a..b A 1.2.3.4", impl.ErrLabel}, {"a\\1 A 1.2.3.4", impl.ErrEscape},
		{strings.Repeat("a.", 130) + " A 1.2.3.4", impl.ErrLong}, {"@ SOA ns admin x 1 1 1 1", impl.ErrWord},
	} {
		for n := range 3 {
			checkLoad(t, ahead+strings.Repeat("\n", n)+c.line, inEx(), impl.Loaded{Stage: 1, Code: c.code, Place: int64(4 + n)})
		}
	}
	checkLoad(t, "x A 1.2.3.4", inEx(), impl.Loaded{Stage: 1, Code: impl.ErrTTL, Place: 1})
	checkLoad(t, " 5 A 1.2.3.4", inEx(), impl.Loaded{Stage: 1, Code: impl.ErrOwner, Place: 1})
	checkLoad(t, "\nx 5 A 1.2.3.4", "", impl.Loaded{Stage: 1, Code: impl.ErrRelative, Place: 2})
	for _, origin := range noNames() {
		if origin != "" {
			checkLoad(t, exampleZone, origin, impl.Loaded{Stage: 1, Code: impl.ErrForm})
			checkLoad(t, "(", origin, impl.Loaded{Stage: 1, Code: impl.ErrForm})
		}
	}
}

// Records that make no zone: the code and the record's place.
func TestLoadZoneStage2(t *testing.T) {
	soa := "@ SOA ns admin 7 1 1 1 1\n"
	for _, c := range []struct {
		text        string
		code, place int64
	}{
		{"", impl.ErrSOA, -1}, {"\n ; nothing\n", impl.ErrSOA, -1}, {"$ORIGIN x.\n", impl.ErrSOA, -1}, {"@ NS ns\na A 1.2.3.4\n", impl.ErrSOA, -1},
		{"a A 1.2.3.4\na 6 A 1.2.3.5\n* NS x", impl.ErrSOA, -1},
		{soa, impl.ErrNS, -1}, {soa + "a NS ns\n", impl.ErrNS, -1},
		{soa + "@ NS ns\nx. A 1.2.3.4\ny. A 1.2.3.4", impl.ErrZone, 2}, {"x. A 1.2.3.4\n" + soa, impl.ErrZone, 0},
		{"@ NS ns\na SOA ns admin 7 1 1 1 1\n" + soa, impl.ErrZone, 0},
		{soa + "@ NS ns\na A 1.2.3.4\na 6 A 1.2.3.5", impl.ErrMixed, 3}, {soa + "@ NS ns\n@ 6 NS ns\n", impl.ErrMixed, 2},
		{soa + "@ NS ns\na SOA ns admin 7 1 1 1 1\n", impl.ErrSOA, 2}, {soa + "@ NS ns\n@ SOA ns admin 8 1 1 1 1\n", impl.ErrSOA, 2},
		{soa + "@ NS ns\n*.a NS ns\n", impl.ErrWild, 2}, {soa + "@ NS ns\na A 1.2.3.4\n* DNAME x\n", impl.ErrWild, 3},
		{soa + "@ NS ns\na A 1.2.3.4\na CNAME b\n", impl.ErrSingle, 2}, {soa + "@ NS ns\na CNAME b\na CNAME c\n", impl.ErrSingle, 3},
		{soa + "@ NS ns\na DNAME b\na DNAME c\n", impl.ErrSingle, 3}, {soa + "@ NS ns\nb.a A 1.2.3.4\na DNAME b\n", impl.ErrBelow, 2},
	} {
		checkLoad(t, "$TTL 5\n"+c.text, inEx(), impl.Loaded{Stage: 2, Code: c.code, Place: c.place})
	}
	checkLoad(t, "", "", impl.Loaded{Stage: 2, Code: impl.ErrSOA, Place: -1})
}

// The limits of a text and of its records.
func TestLoadZoneLimits(t *testing.T) {
	text := exampleZone + ";" + strings.Repeat("x", impl.MaxFile-len(exampleZone)-1)
	checkLoad(t, text, "", loaded(docZone(t)))
	checkLoad(t, text+"x", "", impl.Loaded{Stage: 1, Code: impl.ErrSize})
	checkLoad(t, strings.Repeat("(", 40001), "x", impl.Loaded{Stage: 1, Code: impl.ErrForm})
	checkLoad(t, strings.Repeat("(", 40001), "", impl.Loaded{Stage: 1, Code: impl.ErrSize})
	full := "$TTL 5\n@ SOA ns admin 7 1 1 1 1\n@ NS ns\n"
	for n := range 498 {
		full += fmt.Sprintf("h%d A 1.2.3.4\n", n)
	}
	got := impl.LoadZone(full, inEx())
	if got.Stage != 3 || len(got.Zone.Sets) != 500 || !sameLoaded(got, loadOf(full, inEx())) {
		t.Errorf("LoadZone of 500 records = %s", tellLoaded(got))
	}
	checkLoad(t, full+"h498 A 1.2.3.4", inEx(), impl.Loaded{Stage: 1, Code: impl.ErrCount, Place: 502})
	checkLoad(t, full+"h497 A 1.2.3.4", inEx(), impl.Loaded{Stage: 1, Code: impl.ErrCount, Place: 502})
}

// Arbitrary texts, held against a second reading of the chapter.
func TestLoadZoneAny(t *testing.T) {
	r := rand.New(rand.NewSource(166))
	stages := map[int64]int{}
	for n := range 3000 {
		text := masterText(t, changeZone(t, r, apexes()[n%3], 8))
		lines := strings.SplitAfter(text, "\n")
		for range r.Intn(6) {
			i, k := r.Intn(len(lines)), r.Intn(len(lines))
			switch r.Intn(5) {
			case 0:
				lines[i], lines[k] = lines[k], lines[i]
			case 1:
				lines[i] = ""
			case 2:
				lines[i] += lines[k]
			case 3:
				lines[i] = strings.ToUpper(lines[i])
			case 4:
				lines[i] += []string{"(", "a A 1.2.3\n", "x 5 A 1.2.3.4\n", "$ORIGIN x\n", "\"", "*.q 5 NS x.\n"}[r.Intn(6)]
			}
		}
		text, origin := strings.Join(lines, ""), apexes()[r.Intn(3)]
		checkLoad(t, text, origin, loadOf(text, origin))
		stages[impl.LoadZone(text, origin).Stage]++
	}
	if stages[1] < 100 || stages[2] < 300 || stages[3] < 500 {
		t.Errorf("the stages of the texts: %v", stages)
	}
}
