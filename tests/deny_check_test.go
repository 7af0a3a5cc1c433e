package tests

import (
	"math"
	"math/rand"
	"slices"
	"testing"

	"loop.example/s01858/impl"
)

// checkCase is what a proof proves; its records are a text.
type checkCase struct {
	name, qtype string
	proof       string
	want        int64
}

func checkVerdict(t *testing.T, c checkCase) {
	t.Helper()
	if got := impl.CheckProof(inEx(), named(t, c.name), typed(t, c.qtype), records(t, c.proof)); got != c.want {
		t.Errorf("CheckProof(%s, %s, %q) = %d, want %d", c.name, c.qtype, c.proof, got, c.want)
	}
}

const (
	none   = impl.ProofNone
	noData = impl.ProofNoData
	noName = impl.ProofNoName
)

// The record of the name itself.
func TestCheckProofOwn(t *testing.T) {
	for _, c := range []checkCase{
		{"a", "A", "a NSEC b TXT\n", noData}, {"A", "A", "a NSEC b TXT\n", noData}, {"a", "A", "A.EXAMPLE. NSEC b TXT\n", noData},
		{"a", "TXT", "a NSEC b TXT\n", none}, {"a", "A", "a NSEC b CNAME\n", none}, {"a", "CNAME", "a NSEC b CNAME\n", none},
		{"a", "A", "a NSEC b\n", noData}, {"a", "A", "a NSEC a\n", noData}, {"a", "TYPE65535", "a NSEC b TYPE65534\n", noData},
		{"a", "TYPE65535", "a NSEC b TYPE65535\n", none}, {"@", "A", "@ NSEC @ NS SOA\n", noData}, {"@", "SOA", "@ NSEC @ NS SOA\n", none},
		{"a", "NSEC", "a NSEC b A\n", noData}, {"a", "NSEC", "a NSEC b NSEC\n", none}, {"a", "DNAME", "a NSEC b A\n", noData},
		// A cut's record is of no use for the cut, the apex's is; a DNAME's is of use for its owner.
		{"a", "A", "a NSEC b NS\n", none}, {"a", "A", "a NSEC b NS SOA\n", noData}, {"a", "A", "a NSEC b SOA\n", noData},
		{"a", "A", "a NSEC b DNAME\n", noData}, {"a", "A", "a NSEC b NS DNAME\n", none}, {"a", "TYPE43", "a NSEC b NS\n", none},
		// Of several of use the first; those of no use do not count.
		{"a", "A", "a NSEC b A\na NSEC c TXT\n", none}, {"a", "A", "a NSEC b TXT\na NSEC c A\n", noData},
		{"a", "A", "a NSEC b NS\na NSEC c TXT\n", noData}, {"a", "A", "a NSEC b NS\na NSEC c A\n", none},
		// It comes ahead of what covers the name.
		{"a", "A", "@ NSEC c NS SOA\na NSEC b A\n", none}, {"a", "A", "@ NSEC x.a NS SOA\na NSEC b A\n", none},
		// A cut's record at the name leaves what covers it.
		{"a", "A", "a NSEC b NS\n@ NSEC c NS SOA\n", noName}, {"a", "A", "a NSEC b NS\n@ NSEC x.a NS SOA\n", noData},
	} {
		checkVerdict(t, c)
	}
}

// Records that cover the name.
func TestCheckProofCover(t *testing.T) {
	for _, c := range []checkCase{
		// No record at all, none that covers; the edges of what lies between.
		{"b", "A", "", none}, {"b", "A", "c NSEC d A\n", none}, {"b", "A", "a NSEC B A\n", none}, {"b", "A", "@ NSEC a NS SOA\n", none},
		{"@", "A", "z NSEC @ A\n", none}, {"@", "A", "a NSEC b A\n", none}, {"@", "A", "", none},
		// A next name strictly under the name: an empty name between.
		{"b", "A", "a NSEC x.b A\n", noData}, {"b", "A", "a NSEC X.B A\n", noData}, {"b", "A", "a NSEC y.x.b A\n", noData},
		{"b", "CNAME", "a NSEC x.b A\n", noData}, {"x.b", "A", "a NSEC y.x.b A\n", noData}, {"b", "A", "a NSEC x.bb A\n", none},
		{"a.b", "A", "a NSEC x.b A\n", noName}, {"b", "A", "c NSEC x.b A\n", none},
		// One record that covers both the name and the wildcard, or each by its own.
		{"b", "A", "@ NSEC c NS SOA\n", noName}, {"b", "A", "@ NSEC a NS SOA\na NSEC c A\n", noName}, {"b", "A", "a NSEC c A\n@ NSEC a NS SOA\n", noName},
		{"b", "A", "a NSEC c A\n", none}, {"b", "A", "! NSEC @ A\n", noName}, {"b", "A", "* NSEC @ A\n", none}, {"b", "A", "\\) NSEC @ A\n", noName},
		{"b", "A", "@ NSEC @ NS SOA\n", noName}, {"*", "A", "@ NSEC @ NS SOA\n", noName}, {"*", "A", "@ NSEC * NS SOA\n", none},
		// A next name that does not come behind the owner: all behind it is covered.
		{"b", "A", "* NSEC * TXT\n", noData}, {"b", "A", "a NSEC a A\n@ NSEC a NS SOA\n", noName}, {"b", "A", "a NSEC ! A\n@ NSEC a NS SOA\n", noName},
		{"b", "A", "c NSEC @ A\n@ NSEC a NS SOA\n", none},
		// The wildcard is there, with the type or without, or is an alias.
		{"b", "A", "* NSEC c TXT\n", noData}, {"b", "TXT", "* NSEC c TXT\n", none}, {"b", "A", "* NSEC c CNAME\n", none},
		{"b", "A", "* NSEC a TXT\na NSEC c A\n", noData}, {"b", "A", "@ NSEC * NS SOA\na NSEC c A\n", none},
		{"b", "A", "a NSEC c A\n* NSEC a A\n* NSEC a TXT\n", none}, {"b", "A", "a NSEC c A\n* NSEC a TXT\n* NSEC a A\n", noData},
		{"b", "A", "a NSEC c A\n* NSEC a NS\n* NSEC a TXT\n", noData}, {"b", "A", "a NSEC c A\n* NSEC a NS\n", none},
		{"b", "A", "a NSEC c A\n* NSEC a NS\n@ NSEC a NS SOA\n", noName},
		// The wildcard is an empty name between.
		{"b", "A", "@ NSEC x.* NS SOA\na NSEC c A\n", noData}, {"b", "A", "@ NSEC X.*.EXAMPLE. NS SOA\na NSEC c A\n", noData},
		{"b", "A", "a NSEC c A\n@ NSEC y.x.* NS SOA\n@ NSEC a NS SOA\n", noData}, {"b", "A", "a NSEC c A\n@ NSEC a NS SOA\n@ NSEC x.* NS SOA\n", noName},
		// Of several that cover the name the first: by its names the wildcard's place is told.
		{"q.b", "A", "a NSEC c A\na NSEC z.b A\n", none}, {"q.b", "A", "a NSEC z.b A\na NSEC c A\n", noName},
		{"b", "A", "a NSEC c A\na NSEC x.b A\n@ NSEC a NS SOA\n", noName}, {"b", "A", "a NSEC x.b A\na NSEC c A\n@ NSEC a NS SOA\n", noData},
	} {
		checkVerdict(t, c)
	}
}

// How far up the wildcard stands: at the longest ancestor that the covering record knows.
func TestCheckProofClosest(t *testing.T) {
	for _, c := range []checkCase{
		// By the owner.
		{"q.b", "A", "b NSEC c A\n", noName}, {"q.b", "A", "B NSEC c A\n", noName}, {"q.b", "A", "a.b NSEC c A\n", none},
		{"q.b", "A", "a.b NSEC c A\n*.b NSEC a.b A\n", none}, {"q.b", "A", "a.b NSEC c A\n*.b NSEC a.b TXT\n", noData},
		{"q.b", "A", "a.b NSEC c A\nb NSEC a.b A\n", noName}, {"r.q.b", "A", "a.b NSEC c A\n*.q.b NSEC a.b TXT\n", none},
		// By the next name.
		{"q.b", "A", "a NSEC z.b A\n", noName}, {"q.b", "A", "a NSEC z.B A\n", noName}, {"r.q.b", "A", "a NSEC z.b A\n", noName},
		{"q.b", "A", "a NSEC c A\n@ NSEC a NS SOA\n", noName}, {"q.b", "A", "a NSEC c A\nb NSEC a.b A\n", none},
		{"q.b", "A", "a.b NSEC z.c A\nb NSEC a.b A\n", noName}, {"q.x.b", "A", "a.x.b NSEC z.b A\nx.b NSEC a.x.b A\n", noName},
		{"q.x.b", "A", "a.b NSEC z.x.b A\na.b NSEC b.x.b A\n", noName}, {"q.x.b", "A", "a.b NSEC z.x.b A\nb NSEC a.b A\n", noName},
		// The name is not its own ancestor.
		{"b", "A", "a NSEC b.c A\n* NSEC a A\n", none}, {"*", "A", "! NSEC + A\n", noName}, {"x.*", "A", "* NSEC + A\n", noName},
		{"x.*", "A", "! NSEC y.* A\n", noName},
	} {
		checkVerdict(t, c)
	}
}

// Which records are of use for names below their owners.
func TestCheckProofUse(t *testing.T) {
	for _, c := range []checkCase{
		{"q.b", "A", "b NSEC c NS\n", none}, {"q.b", "A", "b NSEC c NS SOA\n", noName}, {"q.b", "A", "b NSEC c DNAME\n", none},
		{"q.b", "A", "b NSEC c SOA DNAME\n", none}, {"q.b", "A", "b NSEC c NS SOA DNAME\n", none}, {"r.q.b", "A", "b NSEC c NS\n", none},
		{"r.q.b", "A", "b NSEC c DNAME\n", none}, {"Q.B", "A", "b NSEC c DNAME\n", none}, {"q.b", "A", "b NSEC c CNAME\n", noName},
		// Beside their owners they are.
		{"bb", "A", "b NSEC c NS\n@ NSEC a NS SOA\n", noName}, {"bb", "A", "b NSEC c DNAME\n@ NSEC a NS SOA\n", noName},
		{"bb", "A", "b NSEC x.bb NS\n", noData},
		// One of no use is passed over for the next.
		{"q.b", "A", "b NSEC c NS\nb NSEC c A\n", noName}, {"q.b", "A", "b NSEC c DNAME\nb NSEC c A\n", noName},
		{"q.b", "A", "b NSEC c DNAME\na NSEC c A\n@ NSEC a NS SOA\n", noName},
		// Of no use for the wildcard, though of use for the name.
		{"q.b", "A", "a.b NSEC c A\nb NSEC a.b NS\n", none}, {"q.b", "A", "a.b NSEC c A\nb NSEC a.b DNAME\n", none},
		{"q.b", "A", "a.b NSEC c A\nb NSEC a.b DNAME\nb NSEC a.b A\n", noName},
		{"q.b", "A", "a.b NSEC c A\n*.b NSEC a.b DNAME\n", noData}, {"b", "A", "! NSEC c DNAME\n", noName},
		{"x.b", "A", "@ NSEC c NS SOA\n", noName}, {"x.b", "A", "@ NSEC c NS\n", none}, {"x.b", "A", "@ NSEC c NS SOA DNAME\n", none},
	} {
		checkVerdict(t, c)
	}
}

// A proof of which one record is wrong proves nothing, wherever that one stands.
func TestCheckProofWrongRecord(t *testing.T) {
	good := records(t, "@ NSEC c NS SOA\n")
	rr := good[0]
	wrong := map[string]impl.RR{
		"of another type":         {Owner: rr.Owner, Type: impl.TypeA, Class: 1, TTL: 60, Data: "\x01\x02\x03\x04"},
		"of a type beside":        {Owner: rr.Owner, Type: 46, Class: 1, TTL: 60, Data: rr.Data},
		"of any type":             {Owner: rr.Owner, Type: 255, Class: 1, TTL: 60, Data: rr.Data},
		"of another class":        inClass(rr, 3),
		"of class ANY":            inClass(rr, impl.ClassANY),
		"of class NONE":           inClass(rr, impl.ClassNONE),
		"of no class":             inClass(rr, 0),
		"with no data":            rrOf(inEx(), impl.TypeNSEC, ""),
		"with no name in data":    rrOf(inEx(), impl.TypeNSEC, "\x01"),
		"with an empty window":    rrOf(inEx(), impl.TypeNSEC, inEx()+"\x00\x00"),
		"with more behind":        rrOf(inEx(), impl.TypeNSEC, rr.Data+"\x00"),
		"with an owner that's no": rrOf("", impl.TypeNSEC, rr.Data),
		"with a cut owner":        rrOf("\x01a\x07example", impl.TypeNSEC, rr.Data),
		"with an owner elsewhere": rrOf(nm("a"), impl.TypeNSEC, rr.Data),
		"with an owner above":     rrOf(root, impl.TypeNSEC, rr.Data),
		"with a next elsewhere":   rrOf(inEx("x"), impl.TypeNSEC, nm("x", "examples")),
		"with a next above":       rrOf(inEx("x"), impl.TypeNSEC, root),
	}
	for what, bad := range wrong {
		for _, proof := range [][]impl.RR{{bad}, {bad, rr}, {rr, bad}, {rr, bad, rr}} {
			if got := impl.CheckProof(inEx(), inEx("b"), 1, proof); got != none {
				t.Errorf("with a record %s CheckProof = %d", what, got)
			}
		}
	}
	// A TTL tells nothing; letters do not, either.
	for _, ttl := range []int64{0, -1, math.MaxInt64, math.MinInt64} {
		if got := impl.CheckProof(nm("EXAMPLE"), inEx("b"), 1, []impl.RR{inTime(rr, ttl)}); got != noName {
			t.Errorf("with a TTL of %d CheckProof = %d", ttl, got)
		}
	}
}

func TestCheckProofWrongAsked(t *testing.T) {
	proof := records(t, "@ NSEC c NS SOA\n")
	check := func(apex, name string, qtype, want int64) {
		t.Helper()
		if got := impl.CheckProof(apex, name, qtype, proof); got != want {
			t.Errorf("CheckProof(%q, %q, %d) = %d, want %d", apex, name, qtype, got, want)
		}
	}
	for _, name := range noNames() {
		check(name, inEx("b"), 1, none)
		check(inEx(), name, 1, none)
	}
	for _, name := range []string{nm("b"), root, nm("b", "examples"), nm("example", "b"), nm("xexample")} {
		check(inEx(), name, 1, none)
	}
	for _, qtype := range []int64{0, -1, 65536, 65537, math.MaxInt64, math.MinInt64, impl.TypeANY} {
		check(inEx(), inEx("b"), qtype, none)
	}
	for _, qtype := range []int64{1, 2, 47, 254, 256, 65535} {
		check(inEx(), inEx("b"), qtype, noName)
	}
	check(root, inEx("b"), 1, noName)
	check(inEx("b"), inEx("b"), 1, none)
	// A last record covers all that comes behind it, but not what is outside.
	proof = []impl.RR{rrOf(nm("!"), impl.TypeNSEC, nm("!")+"\x00\x01\x22")}
	check(nm("!"), nm("z", "!"), 1, noName)
	check(nm("!"), nm("z"), 1, none)
	check(root, nm("z"), 1, noName)
	// What is no name is not taken for the root, either.
	proof = []impl.RR{rrOf(root, impl.TypeNSEC, root+"\x00\x01\x22")}
	check(root, root, 1, noData)
	for _, name := range noNames() {
		check(root, name, 1, none)
		if got := impl.CheckProof(root, root, 1, append(proof, rrOf(name, impl.TypeNSEC, root))); got != none {
			t.Errorf("with an owner %q CheckProof = %d", name, got)
		}
	}
}

func TestCheckProofMany(t *testing.T) {
	rr := records(t, "@ NSEC c NS SOA\n")[0]
	others := slices.Repeat(records(t, "x NSEC y A\n"), 25)
	for n := range 24 {
		want := int64(noName)
		if n+1 > 20 {
			want = none
		}
		for _, proof := range [][]impl.RR{append(slices.Clone(others[:n]), rr), append([]impl.RR{rr}, others[:n]...)} {
			if got := impl.CheckProof(inEx(), inEx("b"), 1, proof); got != want {
				t.Errorf("CheckProof of %d records = %d", len(proof), got)
			}
		}
	}
}

// CheckProof answers as a second reading of the chapter does, whatever the records say.
func TestCheckProofAgain(t *testing.T) {
	r := rand.New(rand.NewSource(93))
	kinds := map[int64]int{}
	for n := range 40000 {
		apex := apexes()[n%3]
		var proof []impl.RR
		for range r.Intn(6) {
			proof = append(proof, linkIn(r, apex))
		}
		name, qtype := ownerIn(r, apex, 3), []int64{1, 2, 5, 6, 16, 39, 47, 65535}[r.Intn(8)]
		got := impl.CheckProof(apex, name, qtype, proof)
		if want := checkOf(apex, name, qtype, proof); got != want {
			t.Fatalf("CheckProof(%q, %q, %d, %s) = %d, want %d", apex, name, qtype, tellRecords(proof), got, want)
		}
		kinds[got]++
	}
	if kinds[none] < 2000 || kinds[noData] < 2000 || kinds[noName] < 2000 {
		t.Errorf("verdicts by their kinds: %v", kinds)
	}
}
