package tests

import (
	"math/rand"
	"testing"

	"loop.example/s01858/impl"
)

func checkStart(t *testing.T, tell string, z impl.Zone, want string, code int64) {
	t.Helper()
	if got, gotCode := impl.StartJournal(z); gotCode != code || string(got) != want {
		t.Errorf("%s: StartJournal = %d bytes, %d, want %d, %d", tell, len(got), gotCode, len(want), code)
	}
}

// A journal byte by byte: the length, the mark, the count, the apex, the records by rising types, the sum.
func TestStartJournalBytes(t *testing.T) {
	z := mustBuild(t, begun(root), root)
	soa := "\x02ns\x00\x05admin\x00" + "\x00\x00\x00\x01" + soaTail[4:]
	payload := "Z\x00\x02\x00" +
		"\x00\x00\x02\x00\x01\x00\x00\x0e\x10\x00\x04\x02ns\x00" +
		"\x00\x00\x06\x00\x01\x00\x00\x0e\x10\x00\x1f" + soa
	if len(payload) != 61 {
		t.Fatalf("the payload has %d bytes", len(payload))
	}
	checkStart(t, "a small zone", z, "\x00\x00\x00\x3d"+payload+framed(payload)[4+61:], impl.OK)
	// A sum that was made elsewhere.
	got, _ := impl.StartJournal(z)
	if sum := string(got[4+61:]); sum != sumOfSmall {
		t.Errorf("the sum is %x, want %x", sum, sumOfSmall)
	}
}

// sumOfSmall is the first four bytes of the SHA-256 of the small zone's payload.
const sumOfSmall = "\x95\xb4\xc3\x78"

func TestStartJournal(t *testing.T) {
	full := begun(inEx())
	for n := range 498 {
		full = append(full, rrOf(inEx("h"+itoa(n)), impl.TypeA, be(int64(n), 4)))
	}
	for tell, z := range map[string]impl.Zone{
		"a zone alone":        zoneWith(t, 7, "@ NS ns"),
		"many kinds":          zoneWith(t, 4294967295, startZone+"sub NS ns.sub\nns.sub A 192.0.2.53\n*.w TXT \"wild\" \"\"\nold DNAME new\nd 0 TYPE65280 \\# 0\nmax 2147483647 AAAA ::1"),
		"records":             mustBuild(t, full, inEx()),
		"letters":             mustBuild(t, begun(nm("EXAMPLE"), rrOf(nm("WWW", "example"), impl.TypeTXT, st("X"))), inEx()),
		"long names":          mustBuild(t, begun(root, rrOf(nameOf(255), impl.TypeA, "abcd")), root),
		"a long name as apex": mustBuild(t, begun(nameOf(255)), nameOf(255)),
		"long data":           mustBuild(t, begun(root, rrOf(root, 65280, string(make([]byte, 65535)))), root),
	} {
		want := framed(keptZone(z.Apex, impl.ZoneRecords(z)...))
		checkStart(t, tell, z, want, impl.OK)
		checkOpen(t, tell, want, z, nil, int64(len(want)), impl.OK)
	}
}

func TestStartJournalNotValid(t *testing.T) {
	z := zoneWith(t, 7, startZone)
	for tell, ill := range noZones(z) {
		checkStart(t, tell, ill, "", impl.ErrForm)
	}
	// Too great as well: that it is not valid is told first.
	great := greatZone(t, 400001)
	great.Apex = nm("com")
	checkStart(t, "too great and not valid", great, "", impl.ErrForm)
}

func TestStartJournalSize(t *testing.T) {
	for _, size := range []int{399999, 400000} {
		z := greatZone(t, size)
		want := kept(z)
		if len(want) != size {
			t.Fatalf("%d bytes, want %d", len(want), size)
		}
		checkStart(t, itoa(size)+" bytes", z, want, impl.OK)
		checkOpen(t, itoa(size)+" bytes", want, z, nil, int64(size), impl.OK)
	}
	for _, size := range []int{400001, 500000, 1000000} {
		checkStart(t, itoa(size)+" bytes", greatZone(t, size), "", impl.ErrSize)
	}
}

func TestStartJournalAnyZones(t *testing.T) {
	r := rand.New(rand.NewSource(144))
	for n := range 1000 {
		z := changeZone(t, r, apexes()[n%3], 12)
		want := kept(z)
		checkStart(t, tellZone(z), z, want, impl.OK)
		checkOpen(t, tellZone(z), want, z, nil, int64(len(want)), impl.OK)
	}
}
