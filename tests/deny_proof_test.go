package tests

import (
	"math"
	"math/rand"
	"slices"
	"testing"

	"loop.example/s01858/impl"
)

// deniedZone has whatever can be denied.
const deniedZone = `
b        A     192.0.2.1
c.B      TXT   t
alias    CNAME b
*.w      TXT   wild
h.w      A     192.0.2.1
*.al     CNAME b
a.*.e    A     192.0.2.1
*        MX    1 b
old      DNAME new
s        NS    ns.s
ns.s     A     192.0.2.1
x.y.t    A     192.0.2.1
Z        A     192.0.2.1
`

// denyCase is a proof as it should be; its records are the owners of the chain's links.
type denyCase struct {
	name, qtype string
	owners      []string
}

func checkDeny(t *testing.T, z impl.Zone, c denyCase) {
	t.Helper()
	var want []impl.RR
	for _, owner := range c.owners {
		want = append(want, recordsAt(z, named(t, owner), impl.TypeNSEC)...)
	}
	got, code := impl.DenyProof(z, named(t, c.name), typed(t, c.qtype))
	if code != impl.OK || !slices.Equal(got, want) || len(want) != len(c.owners) {
		t.Errorf("DenyProof(%s, %s) = %s, %d, want %s", c.name, c.qtype, tellRecords(got), code, tellRecords(want))
	}
}

func TestDenyProof(t *testing.T) {
	z := chained(t, zoneAnd(t, deniedZone))
	for _, c := range []denyCase{
		// Names that are there without the type: the record of the name alone.
		{"b", "TXT", []string{"b"}}, {"B", "TYPE65535", []string{"b"}}, {"@", "A", []string{"@"}}, {"c.b", "A", []string{"c.b"}},
		{"h.w", "TXT", []string{"h.w"}}, {"*.w", "A", []string{"*.w"}}, {"*", "A", []string{"*"}}, {"old", "A", []string{"old"}},
		{"z", "MX", []string{"Z"}},
		// Empty names between: what covers them.
		{"y.t", "A", []string{"s"}}, {"t", "A", []string{"s"}}, {"w", "A", []string{"x.y.t"}}, {"*.e", "A", []string{"c.b"}},
		{"e", "ANY", []string{"c.b"}}, {"al", "A", []string{"*"}},
		// A wildcard without the type: its record, and what covers the name.
		{"q", "A", []string{"*", "old"}}, {"aa", "A", []string{"*"}}, {"zz", "A", []string{"*", "Z"}}, {"x.q", "A", []string{"*", "old"}},
		{"a.w", "A", []string{"*.w"}}, {"i.W", "A", []string{"*.w", "h.w"}}, {"q.h.i.w", "A", []string{"*.w", "h.w"}},
		// A wildcard that is empty itself.
		{"q.e", "A", []string{"c.b", "a.*.e"}}, {"!.e", "A", []string{"c.b"}}, {"q.e", "ANY", []string{"c.b", "a.*.e"}},
		// Names that are not there, and no wildcard.
		{"d.b", "A", []string{"b", "c.b"}}, {"a.b", "A", []string{"b"}}, {"a.c.b", "A", []string{"c.b"}}, {"q.y.t", "A", []string{"s"}},
		{"z.y.t", "A", []string{"s", "x.y.t"}}, {"a.z", "A", []string{"Z"}}, {"a.alias", "A", []string{"alias"}}, {"q.h.w", "ANY", []string{"h.w"}},
		{"q.a.*.e", "A", []string{"a.*.e"}}, {"q.*.w", "A", []string{"*.w"}}, {"b.*", "A", []string{"*"}},
		// What is no denial.
		{"b", "A", nil}, {"b", "ANY", nil}, {"b", "NSEC", nil}, {"alias", "A", nil}, {"q", "MX", nil}, {"a.al", "A", nil}, {"a.w", "TXT", nil},
		{"s", "A", nil}, {"ns.s", "TXT", nil}, {"q.s", "A", nil}, {"a.old", "A", nil}, {"q.elsewhere.", "A", nil}, {".", "A", nil},
		{"a.w", "NSEC", nil}, {"q", "CNAME", []string{"*", "old"}},
	} {
		checkDeny(t, z, c)
	}
}

// The chain of a zone without a wildcard at its top: of names that are not there the apex tells, too.
func TestDenyProofApex(t *testing.T) {
	z := chained(t, zoneText(t, exampleZone))
	for _, c := range []denyCase{
		{"none", "A", []string{"@", "x.y.ent"}}, {"a", "A", []string{"@"}}, {"zz", "A", []string{"@", "www"}}, {"ENT", "A", []string{"@"}},
		{"q.none", "A", []string{"@", "x.y.ent"}}, {"q.ent", "A", []string{"@"}}, {"\\000", "A", []string{"@"}}, {"WEB", "MX", []string{"web"}},
	} {
		checkDeny(t, z, c)
	}
	one := chained(t, zoneAnd(t, ""))
	for _, c := range []denyCase{{"a", "A", []string{"@"}}, {"@", "A", []string{"@"}}, {"*", "A", []string{"@"}}, {"@", "NS", nil}} {
		checkDeny(t, one, c)
	}
}

// Zones that nobody chained: the records are picked as they stand, whatever they say.
func TestDenyProofUnchained(t *testing.T) {
	for _, c := range []struct{ text, name, qtype, want string }{
		{"a A 192.0.2.1\n", "a", "TXT", ""}, {"a A 192.0.2.1\n", "q", "A", ""},
		// The record of the name ahead of what covers it, and of several always the first.
		{"a A 192.0.2.1\na NSEC b TXT\n@ NSEC z\n", "a", "TXT", "a NSEC b TXT\n"},
		{"a A 192.0.2.1\n@ NSEC z\n", "a", "TXT", "@ NSEC z\n"},
		{"a 5 NSEC b A\na 5 NSEC z\n", "a", "A", "a 5 NSEC b A\n"},
		{"@ NSEC c\na NSEC c\nb NSEC c\n", "bb", "A", "@ NSEC c\n"},
		{"a NSEC c\nb NSEC c\n", "bb", "A", "a NSEC c\n"}, {"a NSEC d\na NSEC c\n", "bb", "A", "a NSEC c\n"},
		{"a NSEC b\na NSEC c\n", "bb", "A", "a NSEC c\n"},
		// At the edges: what covers lies strictly between.
		{"a NSEC b\n", "b", "A", ""}, {"a NSEC c\n", "b", "A", "a NSEC c\n"}, {"b NSEC c\n", "a", "A", ""},
		// A next name that does not come behind the owner: all behind the owner is covered.
		{"b NSEC b\n", "c", "A", "b NSEC b\n"}, {"b NSEC B\n", "c", "A", "b NSEC B\n"}, {"c NSEC b\n", "d", "A", "c NSEC b\n"},
		{"c NSEC a\n", "b", "A", ""}, {"b NSEC b\n", "x.b", "A", "b NSEC b\n"}, {"b NSEC b\n", "a", "A", ""},
		// A next name that is not under the apex: it covers nothing, but its owner's it is.
		{"b NSEC elsewhere.\n", "c", "A", ""}, {"b NSEC elsewhere.\n", "b", "A", "b NSEC elsewhere.\n"}, {"b NSEC .\n", "c", "A", ""},
		// Below a cut the zone's records count as well.
		{"b NS ns\nx.b NSEC d\n", "c", "A", "x.b NSEC d\n"},
		// Two of one owner in the order of the names: first that of the name, then that of the wildcard.
		{"! NSEC a\n! NSEC c\n", "b", "A", "! NSEC c\n! NSEC a\n"}, {"! NSEC a\n! NSEC c\n", "(", "A", "! NSEC a\n"},
		// By rising owners, whatever the order of the names.
		{"! NSEC a\na NSEC c\n", "b", "A", "! NSEC a\na NSEC c\n"}, {"! NSEC a\n# NSEC c\n", "b", "A", "! NSEC a\n# NSEC c\n"},
		{"*.b MX 1 c\n*.b NSEC c\nA.B NSEC c\n", "q.b", "A", "*.b NSEC c\n"}, {"*.b MX 1 c\nA.B NSEC c\n", "q.b", "A", "A.B NSEC c\n"},
	} {
		got, code := impl.DenyProof(zoneAnd(t, c.text), named(t, c.name), typed(t, c.qtype))
		if want := records(t, c.want); code != impl.OK || !slices.Equal(got, want) {
			t.Errorf("DenyProof(%q, %s, %s) = %s, %d, want %s", c.text, c.name, c.qtype, tellRecords(got), code, tellRecords(want))
		}
	}
}

func TestDenyProofWrong(t *testing.T) {
	z := chained(t, zoneAnd(t, deniedZone))
	bad := cloneZone(z)
	slices.Reverse(bad.Sets)
	check := func(z impl.Zone, name string, qtype, want int64) {
		t.Helper()
		if got, code := impl.DenyProof(z, name, qtype); code != want || want != impl.OK && len(got) > 0 {
			t.Errorf("DenyProof(%q, %d) = %s, %d, want %d", name, qtype, tellRecords(got), code, want)
		}
	}
	check(bad, inEx("q"), 1, impl.ErrForm)
	check(impl.Zone{}, inEx("q"), 1, impl.ErrForm)
	for _, name := range noNames() {
		check(z, name, 1, impl.ErrForm)
	}
	for _, qtype := range []int64{0, -1, 65536, math.MaxInt64, math.MinInt64} {
		check(z, inEx("q"), qtype, impl.ErrForm)
	}
	for _, qtype := range []int64{1, 65535, impl.TypeANY} {
		check(z, inEx("q"), qtype, impl.OK)
	}
}

// DenyProof answers as a second reading of the chapter does, of zones that were chained and of others.
func TestDenyProofAgain(t *testing.T) {
	r := rand.New(rand.NewSource(92))
	sizes := map[int]int{}
	for n := range 600 {
		z := denyZone(t, r, apexes()[n%3], n%30)
		if n%3 == 0 {
			z = chained(t, z)
		}
		for range 30 {
			name, qtype := deniedIn(r, z), lookTypes()[r.Intn(len(lookTypes()))]
			got, code := impl.DenyProof(z, name, qtype)
			if want := denyOf(z, name, qtype); code != impl.OK || !slices.Equal(got, want) {
				t.Fatalf("DenyProof(%s, %q, %d) = %s, %d, want %s", tellZone(z), name, qtype, tellRecords(got), code, tellRecords(want))
			}
			sizes[len(got)]++
		}
	}
	if sizes[1] < 500 || sizes[2] < 500 {
		t.Errorf("proofs by their sizes: %v", sizes)
	}
}
