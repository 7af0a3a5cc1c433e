package tests

import (
	"math/rand"
	"slices"
	"testing"

	"loop.example/s01858/impl"
)

func TestProofKinds(t *testing.T) {
	if impl.ProofNone != 0 || impl.ProofNoData != 1 || impl.ProofNoName != 2 {
		t.Errorf("ProofNone %d, ProofNoData %d, ProofNoName %d", impl.ProofNone, impl.ProofNoData, impl.ProofNoName)
	}
}

// checkChain holds the NSEC records of a chained zone against a text; all other records are those that were there.
func checkChain(t *testing.T, z impl.Zone, want string) {
	t.Helper()
	out := chained(t, z)
	list := records(t, want)
	if !slices.Equal(nsecsOf(out), list) {
		t.Errorf("ChainZone(%s) has %s, want %s", tellZone(z), tellRecords(nsecsOf(out)), tellRecords(list))
	}
	isLink := func(rr impl.RR) bool { return rr.Type == impl.TypeNSEC }
	before := slices.DeleteFunc(impl.ZoneRecords(z), isLink)
	if after := slices.DeleteFunc(impl.ZoneRecords(out), isLink); !slices.Equal(before, after) || out.Apex != z.Apex {
		t.Errorf("ChainZone made %s of %s", tellRecords(after), tellRecords(before))
	}
}

func TestChainZone(t *testing.T) {
	for _, c := range []struct{ text, want string }{
		// One owner alone is its own next one.
		{"", "@ 300 NSEC @ NS SOA NSEC\n"},
		{"a A 192.0.2.1\n", "@ 300 NSEC a NS SOA NSEC\na 300 NSEC @ A NSEC\n"},
		// Owners in their order and their own letters; every type of an owner, once.
		{
			"B A 192.0.2.1\nB A 192.0.2.2\nB TXT t\nA MX 1 b\nA.a TYPE65535 \\# 0\nA.a TYPE256 \\# 0\n",
			"@ 300 NSEC A NS SOA NSEC\nA 300 NSEC A.a MX NSEC\nA.a 300 NSEC B NSEC TYPE256 TYPE65535\nB 300 NSEC @ A TXT NSEC\n",
		},
		// Aliases, tails and wildcards are owners like others; names between are none.
		{
			"c CNAME d\n*.w A 192.0.2.1\nx.y.z A 192.0.2.1\nd DNAME c\n",
			"@ 300 NSEC c NS SOA NSEC\nc 300 NSEC d CNAME NSEC\nd 300 NSEC *.w DNAME NSEC\n" +
				"*.w 300 NSEC x.y.z A NSEC\nx.y.z 300 NSEC @ A NSEC\n",
		},
		// A cut has NS and NSEC alone, what is strictly under it is not told; also a cut below a cut.
		{
			"s NS ns.s\ns TXT t\ns A 192.0.2.1\nns.s A 192.0.2.1\nd.s NS ns.s\nx.d.s A 192.0.2.1\nt A 192.0.2.1\n",
			"@ 300 NSEC s NS SOA NSEC\ns 300 NSEC t NS NSEC\nt 300 NSEC @ A NSEC\n",
		},
		{"s NS ns.s\nns.s A 192.0.2.1\n", "@ 300 NSEC s NS SOA NSEC\ns 300 NSEC @ NS NSEC\n"},
		// The sets of NSEC that stand there go, with the owners that have nothing else.
		{
			"@ NSEC z A\na 60 NSEC b NS\na 60 NSEC c NS\nb A 192.0.2.1\nb NSEC c A\ns NS ns.s\nx.s NSEC b A\ns NSEC b A\nc CNAME b\nc NSEC b\n*.a NSEC b\n",
			"@ 300 NSEC b NS SOA NSEC\nb 300 NSEC c A NSEC\nc 300 NSEC s CNAME NSEC\ns 300 NSEC @ NS NSEC\n",
		},
	} {
		checkChain(t, zoneAnd(t, c.text), c.want)
	}
}

func TestChainZoneTime(t *testing.T) {
	for _, c := range []struct {
		ttl, minimum string
		want         int64
	}{
		{"3600", "300", 300}, {"300", "3600", 300}, {"300", "300", 300}, {"299", "300", 299}, {"301", "300", 300},
		{"0", "300", 0}, {"300", "0", 0}, {"2147483647", "2147483647", 2147483647}, {"2147483646", "2147483647", 2147483646},
	} {
		z := zoneText(t, "@ "+c.ttl+" SOA ns admin 7 7200 900 86400 "+c.minimum+"\n@ 60 NS ns\n")
		if got := nsecsOf(chained(t, z)); len(got) != 1 || got[0].TTL != c.want {
			t.Errorf("with an SOA of %s and %s ChainZone has %s", c.ttl, c.minimum, tellRecords(got))
		}
	}
	soa := soaOf(inEx(), 1)
	soa.Data, soa.TTL = soa.Data[:len(soa.Data)-4]+"\xff\xff\xff\xff", 77
	z := mustBuild(t, []impl.RR{soa, rrOf(inEx(), impl.TypeNS, root)}, inEx())
	if got := nsecsOf(chained(t, z)); len(got) != 1 || got[0].TTL != 77 {
		t.Errorf("with the greatest minimum ChainZone has %s", tellRecords(got))
	}
}

// The letters of the apex are those of its owner, and the zone's own Apex stays as it is.
func TestChainZoneLetters(t *testing.T) {
	z := zoneAnd(t, "A TXT t\n")
	z.Apex = nm("EXAMPLE")
	checkChain(t, z, "@ 300 NSEC A NS SOA NSEC\nA 300 NSEC @ TXT NSEC\n")
}

func TestChainZoneCount(t *testing.T) {
	several := func(owners, more int) impl.Zone {
		var list []impl.RR
		for n := range owners {
			list = append(list, aRecord(inEx(itoa(n)), 60))
		}
		for n := range more {
			list = append(list, rrOf(inEx(), impl.TypeTXT, st(itoa(n))))
		}
		return mustBuild(t, begun(inEx(), list...), inEx())
	}
	for _, c := range []struct{ owners, more, code int }{
		{248, 1, impl.OK}, {248, 2, impl.ErrCount}, {249, 0, impl.ErrCount}, {248, 0, impl.OK},
		{0, 497, impl.OK}, {0, 498, impl.ErrCount}, {498, 0, impl.ErrCount},
	} {
		z, code := impl.ChainZone(several(c.owners, c.more))
		if code != int64(c.code) {
			t.Errorf("ChainZone of %d owners and %d texts = %d", c.owners, c.more, code)
		}
		if want := 2 + c.owners + c.more + c.owners + 1; code == impl.OK && len(impl.ZoneRecords(z)) != want {
			t.Errorf("ChainZone has %d records, want %d", len(impl.ZoneRecords(z)), want)
		}
		if code != impl.OK && !sameZone(z, impl.Zone{}) {
			t.Errorf("ChainZone = %s beside a code", tellZone(z))
		}
	}
	// A full zone whose records are chained already has room for its chain.
	full := chained(t, several(248, 1))
	if again := chained(t, full); !sameZone(again, full) {
		t.Errorf("a chained zone, chained: %s", tellZone(again))
	}
}

func TestChainZoneWrong(t *testing.T) {
	z := zoneAnd(t, "a A 192.0.2.1\n")
	bad := []impl.Zone{{}, {Apex: inEx()}, {Apex: "example", Sets: z.Sets}, {Apex: nm("a"), Sets: z.Sets}, {Apex: z.Apex, Sets: z.Sets[1:]}}
	for range 2 {
		other := cloneZone(z)
		slices.Reverse(other.Sets)
		bad = append(bad, other)
	}
	bad[len(bad)-1].Sets = append(bad[len(bad)-1].Sets, impl.Set{Owner: inEx("b"), Type: 1, TTL: 60})
	for _, z := range bad {
		if out, code := impl.ChainZone(z); code != impl.ErrForm || !sameZone(out, impl.Zone{}) {
			t.Errorf("ChainZone(%s) = %s, %d", tellZone(z), tellZone(out), code)
		}
	}
}

// ChainZone answers as a second reading of the chapter does, and of its own answer just that.
func TestChainZoneAgain(t *testing.T) {
	r := rand.New(rand.NewSource(91))
	for n := range 1500 {
		z := denyZone(t, r, apexes()[n%3], n%30)
		out := chained(t, z)
		if want := mustBuild(t, chainOf(z), z.Apex); !sameZone(out, want) {
			t.Fatalf("ChainZone(%s) = %s, want %s", tellZone(z), tellZone(out), tellZone(want))
		}
		if again := chained(t, out); !sameZone(again, out) {
			t.Fatalf("ChainZone(%s) = %s", tellZone(out), tellZone(again))
		}
	}
}
