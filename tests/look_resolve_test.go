package tests

import (
	"fmt"
	"strings"
	"testing"

	"loop.example/s01858/impl"
)

// resultCase is a result as it should be; its records are texts.
type resultCase struct {
	name, qtype string
	code        int64
	aa          bool
	last        string

	answer, authority, extra string
}

func checkResult(t *testing.T, z impl.Zone, c resultCase) {
	t.Helper()
	want := impl.Result{
		Code: c.code, AA: c.aa, Last: named(t, c.last),
		Answer: records(t, c.answer), Authority: records(t, c.authority), Extra: records(t, c.extra),
	}
	got, code := impl.Resolve(z, named(t, c.name), typed(t, c.qtype))
	if code != impl.OK || !sameResult(got, want) {
		t.Errorf("Resolve(%s, %s) = %s, %d\nwant %s", c.name, c.qtype, tellResult(got), code, tellResult(want))
	}
}

const (
	askedSOA = "@ 300 SOA ns1 admin 7 7200 900 86400 300"
	subNS    = "sub NS ns.SUB\nsub NS ns.elsewhere.\nsub NS ns1"
	ns1Both  = "ns1 A 192.0.2.1\nns1 A 192.0.2.2\nns1 AAAA 2001:db8::1"
	nsSub    = "ns.sub A 192.0.2.53\nns.sub AAAA 2001:db8::53"
	webBoth  = "Web 600 A 192.0.2.80\nWeb 800 AAAA 2001:db8::80"
	subExtra = nsSub + "\n" + ns1Both
	apexNS   = "@ NS ns.sub\n@ NS ns.elsewhere.\n@ NS ns1"
	mailMX   = "mail MX 10 web\nmail MX 20 WEB\nmail MX 30 ns.sub\nmail MX 40 mail\nmail MX 50 none\nmail MX 60 www\nmail MX 70 mx.elsewhere.\nmail MX 80 sub"
)

func TestResolve(t *testing.T) {
	z := zoneText(t, askedZone)
	for _, c := range []resultCase{
		// one step
		{"web", "A", 0, true, "web", "Web 600 A 192.0.2.80", "", ""},
		{"WEB", "ANY", 0, true, "WEB", "Web 600 A 192.0.2.80\nWeb 700 TXT web\nWeb 800 AAAA 2001:db8::80", "", ""},
		{"web", "MX", 0, true, "web", "", askedSOA, ""},
		{"ent", "ANY", 0, true, "ent", "", askedSOA, ""},
		{"none", "A", 3, true, "none", "", askedSOA, ""},
		{"elsewhere.", "A", 5, false, "elsewhere.", "", "", ""},
		{"www", "CNAME", 0, true, "www", "www 60 CNAME web", "", ""},
		{"www", "ANY", 0, true, "www", "www 60 CNAME web", "", ""},
		{"@", "SOA", 0, true, "@", "@ SOA ns1 admin 7 7200 900 86400 300", "", ""},
		{"@", "A", 0, true, "@", "", askedSOA, ""},
		// aliases
		{"www", "A", 0, true, "web", "www 60 CNAME web\nWeb 600 A 192.0.2.80", "", ""},
		{"two", "A", 0, true, "web", "two CNAME WWW\nwww 60 CNAME web\nWeb 600 A 192.0.2.80", "", ""},
		{"www", "MX", 0, true, "web", "www 60 CNAME web", askedSOA, ""},
		{"away", "A", 0, true, "www.elsewhere.", "away CNAME www.elsewhere.", "", ""},
		{"lost", "A", 3, true, "none", "lost CNAME none", askedSOA, ""},
		{"hollow", "A", 0, true, "ent", "hollow CNAME ent", askedSOA, ""},
		{"below", "A", 0, true, "h.sub", "below CNAME h.sub", subNS, subExtra},
		{"under", "A", 0, true, "a.New", "under CNAME a.old\nold 50 DNAME New\na.old 50 CNAME a.New\na.new A 192.0.2.5", "", ""},
		{"self", "A", 0, true, "self", "self CNAME Self", "", ""},
		{"SELF", "A", 0, true, "SELF", "self CNAME Self", "", ""},
		{"c1", "A", 0, true, "c2", "c1 CNAME c2\nc2 CNAME C1", "", ""},
		{"C2", "A", 0, true, "C1", "c2 CNAME C1\nc1 CNAME c2", "", ""},
		// a DNAME
		{"old", "A", 0, true, "old", "", askedSOA, ""},
		{"a.old", "A", 0, true, "a.New", "old 50 DNAME New\na.old 50 CNAME a.New\na.new A 192.0.2.5", "", ""},
		{"A.OLD", "A", 0, true, "A.New", "old 50 DNAME New\nA.OLD 50 CNAME A.New\na.new A 192.0.2.5", "", ""},
		{"b.old", "A", 3, true, "b.New", "old 50 DNAME New\nb.old 50 CNAME b.New", askedSOA, ""},
		{"a.old", "CNAME", 0, true, "a.New", "old 50 DNAME New\na.old 50 CNAME a.New", askedSOA, ""},
		{"a.b.out", "A", 0, true, "a.b.elsewhere.", "out DNAME elsewhere.\na.b.out CNAME a.b.elsewhere.", "", ""},
		// wildcards
		{"q.w", "TXT", 0, true, "q.w", "q.w TXT wild", "", ""},
		{"Q.w", "MX", 0, true, "Q.w", "Q.w 90 MX 10 Web", "", webBoth},
		{"q.w", "ANY", 0, true, "q.w", "q.w 90 MX 10 Web\nq.w TXT wild", "", webBoth},
		{"q.w", "A", 0, true, "q.w", "", askedSOA, ""},
		{"q.cn", "A", 0, true, "web", "q.cn CNAME web\nWeb 600 A 192.0.2.80", "", ""},
		{"q.e", "A", 0, true, "q.e", "", askedSOA, ""},
		{"q.host.w", "TXT", 3, true, "q.host.w", "", askedSOA, ""},
		{"q.loop", "A", 0, true, "a.loop", "q.loop CNAME a.loop\na.loop CNAME a.loop", "", ""},
		// referrals
		{"sub", "NS", 0, false, "sub", "", subNS, subExtra},
		{"h.SUB", "A", 0, false, "h.SUB", "", subNS, subExtra},
		{"ns.sub", "A", 0, false, "ns.sub", "", subNS, subExtra},
		{"x.deep.sub", "ANY", 0, false, "x.deep.sub", "", subNS, subExtra},
		{"cold", "A", 0, false, "cold", "", "cold NS ns.elsewhere.", ""},
		// addresses
		{"@", "NS", 0, true, "@", apexNS, "", ns1Both},
		{"@", "ANY", 0, true, "@", apexNS + "\n@ SOA ns1 admin 7 7200 900 86400 300", "", ns1Both},
		{"_srv", "SRV", 0, true, "_srv", "_srv SRV 1 2 3 Ns1\n_srv SRV 2 2 3 web", "", ns1Both + "\n" + webBoth},
		{"mail", "MX", 0, true, "mail", mailMX, "", webBoth + "\nmail A 192.0.2.25"},
		{"mail", "ANY", 0, true, "mail", "mail A 192.0.2.25\n" + mailMX, "", webBoth},
	} {
		checkResult(t, z, c)
	}
}

// The document's own examples.
func TestResolveExamples(t *testing.T) {
	z := mustBuild(t, exampleRecords(), inEx())
	soa := "@ 300 SOA ns1 admin 7 7200 900 86400 300"
	for _, c := range []resultCase{
		{"www", "A", 0, true, "web", "www CNAME web\nweb A 192.0.2.80", "", ""},
		{"web", "MX", 0, true, "web", "", soa, ""},
		{"none", "A", 3, true, "none", "", soa, ""},
		{"ent", "A", 0, true, "ent", "", soa, ""},
		{"q.w", "TXT", 0, true, "q.w", "q.w TXT wild", "", ""},
		{"q.w", "A", 0, true, "q.w", "", soa, ""},
		{"h.sub", "A", 0, false, "h.sub", "", "sub NS ns.sub", "ns.sub A 192.0.2.53"},
		{"a.old", "A", 3, true, "a.new", "old DNAME new\na.old CNAME a.new", soa, ""},
		{"example.com.", "A", 5, false, "example.com.", "", "", ""},
	} {
		checkResult(t, z, c)
	}
}

// rowOfAliases is some aliases one behind the other, c1 to c2 and so on, as a text.
func rowOfAliases(n int) string {
	out := ""
	for i := 1; i <= n; i++ {
		out += fmt.Sprintf("c%d CNAME c%d\n", i, i+1)
	}
	return out
}

// At most 16 aliases are followed for one query; the last one's target is not asked.
func TestResolveChain(t *testing.T) {
	for _, n := range []int{1, 2, 14, 15, 16, 17, 18, 40} {
		text := rowOfAliases(n)
		end := fmt.Sprintf("c%d A 192.0.2.1\n", n+1)
		want := resultCase{name: "c1", qtype: "A", aa: true, last: fmt.Sprintf("c%d", n+1), answer: text + end}
		if n >= 16 {
			want.last, want.answer = "c16", rowOfAliases(16)
		}
		checkResult(t, zoneAnd(t, text+end), want)
	}
	// a target that is not there is not asked either
	checkResult(t, zoneAnd(t, rowOfAliases(15)), resultCase{"c1", "A", 3, true, "c16", rowOfAliases(15), "@ 300 SOA ns admin 7 7200 900 86400 300", ""})
	checkResult(t, zoneAnd(t, rowOfAliases(16)), resultCase{"c1", "A", 0, true, "c16", rowOfAliases(16), "", ""})
}

// A DNAME counts as an alias; whatever leads to a name that was asked ends there.
func TestResolveTails(t *testing.T) {
	text := "t1 DNAME t2\nt2 DNAME t3\n" + rowOfAliases(13) + "c14 CNAME q.t1\nq.t3 A 192.0.2.1\n"
	tails := "t1 DNAME t2\nq.t1 CNAME q.t2\nt2 DNAME t3\nq.t2 CNAME q.t3\n"
	checkResult(t, zoneAnd(t, text), resultCase{"c1", "A", 0, true, "q.t2", rowOfAliases(13) + "c14 CNAME q.t1\n" + tails, "", ""})
	checkResult(t, zoneAnd(t, text), resultCase{"c2", "A", 0, true, "q.t3", strings.TrimPrefix(rowOfAliases(13), "c1 CNAME c2\n") + "c14 CNAME q.t1\n" + tails + "q.t3 A 192.0.2.1", "", ""})
	// a ring of a DNAME and an alias, and a DNAME that leads to itself
	ring := zoneAnd(t, "r DNAME s\nq.s CNAME Q.R\nown DNAME OWN\n")
	checkResult(t, ring, resultCase{"q.r", "A", 0, true, "q.s", "r DNAME s\nq.r CNAME q.s\nq.s CNAME Q.R", "", ""})
	checkResult(t, ring, resultCase{"q.own", "A", 0, true, "q.own", "own DNAME OWN\nq.own CNAME q.OWN", "", ""})
	// one that makes the name longer each time ends by its length or by the count
	coil := zoneAnd(t, "coil DNAME x.coil\ngreat DNAME "+strings.Repeat("x", 60)+".great\n")
	answer := ""
	for n := range 16 {
		answer += "coil DNAME x.coil\na." + strings.Repeat("x.", n) + "coil CNAME a." + strings.Repeat("x.", n+1) + "coil\n"
	}
	checkResult(t, coil, resultCase{"a.coil", "A", 0, true, "a." + strings.Repeat("x.", 15) + "coil", answer, "", ""})
	long := strings.Repeat("x", 60) + "."
	answer = ""
	for n := range 3 {
		answer += "great DNAME " + long + "great\na." + strings.Repeat(long, n) + "great CNAME a." + strings.Repeat(long, n+1) + "great\n"
	}
	checkResult(t, coil, resultCase{"a.great", "A", 6, true, "a." + strings.Repeat(long, 3) + "great", answer + "great DNAME " + long + "great", "", ""})
}

// A DNAME whose target is too long is told alone, as the first step.
func TestResolveLong(t *testing.T) {
	tail := rrOf(inEx("d"), impl.TypeDNAME, nameOf(254))
	z := mustBuild(t, begun(inEx(), tail), inEx())
	got, code := impl.Resolve(z, inEx("q", "d"), 1)
	want := impl.Result{Code: impl.YXDomain, AA: true, Answer: []impl.RR{tail}, Last: inEx("q", "d")}
	if code != impl.OK || !sameResult(got, want) {
		t.Errorf("Resolve = %s, %d", tellResult(got), code)
	}
	tail.Data = nameOf(253)
	z = mustBuild(t, begun(inEx(), tail), inEx())
	got, code = impl.Resolve(z, inEx("q", "d"), 1)
	target := st("q") + nameOf(253)
	want = impl.Result{AA: true, Answer: []impl.RR{tail, rrOf(inEx("q", "d"), 5, target)}, Last: target}
	if code != impl.OK || !sameResult(got, want) {
		t.Errorf("Resolve = %s, %d", tellResult(got), code)
	}
}

// Beside a denial the SOA's time is the lesser of its own and of its last number.
func TestResolveNegativeTime(t *testing.T) {
	for _, c := range []struct{ ttl, minimum, want int64 }{
		{3600, 300, 300}, {300, 300, 300}, {299, 300, 299}, {301, 300, 300}, {0, 300, 0}, {300, 0, 0}, {2147483647, 4294967295, 2147483647}, {7, 4294967295, 7},
	} {
		soa := soaOf(inEx(), 1)
		soa.TTL, soa.Data = c.ttl, soa.Data[:len(soa.Data)-4]+be(c.minimum, 4)
		z := mustBuild(t, []impl.RR{soa, rrOf(capital(inEx()), 2, root)}, inEx())
		denied := soa
		denied.TTL = c.want
		for _, name := range []string{inEx(), inEx("none")} {
			r, code := impl.Resolve(z, name, 1)
			if code != impl.OK || len(r.Authority) != 1 || r.Authority[0] != denied {
				t.Errorf("time %d and minimum %d: %s, %d", c.ttl, c.minimum, tellResult(r), code)
			}
		}
		if r, code := impl.Resolve(z, inEx(), impl.TypeSOA); code != impl.OK || len(r.Answer) != 1 || r.Answer[0] != soa {
			t.Errorf("the SOA itself: %s, %d", tellResult(r), code)
		}
	}
}

// Which addresses stand beside an answer: more of the cases than the one zone has.
func TestResolveAddresses(t *testing.T) {
	for _, c := range []struct {
		what, zone string
		want       resultCase
	}{
		{"a target that only a wildcard has", "*.w A 192.0.2.1\n@ MX 1 q.w\n",
			resultCase{"@", "MX", 0, true, "@", "@ MX 1 q.w", "", ""}},
		{"a target that is a wildcard", "*.w A 192.0.2.1\n@ MX 1 *.w\n",
			resultCase{"@", "MX", 0, true, "@", "@ MX 1 *.w", "", "*.w A 192.0.2.1"}},
		{"AAAA alone, then A alone", "b AAAA ::1\nc A 192.0.2.1\nm MX 1 b\nm MX 2 c\n",
			resultCase{"m", "MX", 0, true, "m", "m MX 1 b\nm MX 2 c", "", "b AAAA ::1\nc A 192.0.2.1"}},
		{"A ahead of AAAA, target by target", "b AAAA ::1\nb A 192.0.2.2\nc AAAA ::2\nc A 192.0.2.1\nm MX 1 c\nm MX 2 b\n",
			resultCase{"m", "MX", 0, true, "m", "m MX 1 c\nm MX 2 b", "", "c A 192.0.2.1\nc AAAA ::2\nb A 192.0.2.2\nb AAAA ::1"}},
		{"of two types at one owner, types rising", "b A 192.0.2.2\nc A 192.0.2.1\nm SRV 0 0 1 b\nm MX 2 c\n",
			resultCase{"m", "ANY", 0, true, "m", "m MX 2 c\nm SRV 0 0 1 b", "", "c A 192.0.2.1\nb A 192.0.2.2"}},
		{"addresses that stand in the answer, in other letters", "M A 192.0.2.2\nm AAAA ::1\nm MX 1 m\n",
			resultCase{"m", "ANY", 0, true, "m", "M A 192.0.2.2\nM MX 1 m\nM AAAA ::1", "", ""}},
		{"an answer of another type leaves both", "M A 192.0.2.2\nm AAAA ::1\nm MX 1 m\n",
			resultCase{"M", "MX", 0, true, "M", "M MX 1 m", "", "M A 192.0.2.2\nM AAAA ::1"}},
		{"a target at a cut and one below, of an answer", "s NS n.s\ns A 192.0.2.2\nn.s A 192.0.2.1\nm MX 1 s\nm MX 2 n.s\nm MX 3 b\nb A 192.0.2.4\n",
			resultCase{"m", "MX", 0, true, "m", "m MX 1 s\nm MX 2 n.s\nm MX 3 b", "", "b A 192.0.2.4"}},
		{"a target at a cut, of a referral", "s NS s\ns A 192.0.2.2\n",
			resultCase{"x.s", "A", 0, false, "x.s", "", "s NS s", "s A 192.0.2.2"}},
		{"a target below another cut, of a referral", "s NS n.r\nr NS n.elsewhere.\nn.r AAAA ::9\n",
			resultCase{"x.s", "A", 0, false, "x.s", "", "s NS n.r", "n.r AAAA ::9"}},
		{"names of other types are no targets", "b A 192.0.2.2\np PTR b\np NAPTR 1 1 a b c b\np NSEC b A\np DNAME b\n",
			resultCase{"p", "ANY", 0, true, "p", "p PTR b\np NAPTR 1 1 a b c b\np DNAME b\np NSEC b A", "", ""}},
		{"an alias's target is no target", "b A 192.0.2.2\np CNAME b\n",
			resultCase{"p", "CNAME", 0, true, "p", "p CNAME b", "", ""}},
		{"addresses behind an alias", "b A 192.0.2.2\np CNAME m\nm MX 1 b\n",
			resultCase{"p", "MX", 0, true, "m", "p CNAME m\nm MX 1 b", "", "b A 192.0.2.2"}},
		{"the apex as a target", "@ A 192.0.2.2\nm MX 1 @\n",
			resultCase{"m", "MX", 0, true, "m", "m MX 1 @", "", "@ A 192.0.2.2"}},
		{"an alias as a target has no addresses of its own", "b A 192.0.2.2\nal CNAME b\nm MX 1 al\n",
			resultCase{"m", "MX", 0, true, "m", "m MX 1 al", "", ""}},
	} {
		t.Run(c.what, func(t *testing.T) { checkResult(t, zoneAnd(t, c.zone), c.want) })
	}
}

// The root as apex has every target under it, and nothing is outside.
func TestResolveRoot(t *testing.T) {
	ns, cut := rrOf(nm("ns"), 1, "abcd"), rrOf(nm("com"), 2, nm("a", "com"))
	glue := rrOf(nm("a", "com"), 28, be(7, 16))
	soa := soaBeside(mustBuild(t, begun(root), root))
	z := mustBuild(t, begun(root, ns, cut, glue), root)
	for _, c := range []struct {
		name string
		want impl.Result
	}{
		{root, impl.Result{AA: true, Answer: []impl.RR{rrOf(root, 2, nm("ns"))}, Extra: []impl.RR{ns}}},
		{nm("x", "com"), impl.Result{Authority: []impl.RR{cut}, Extra: []impl.RR{glue}}},
		{nm("none"), impl.Result{Code: impl.NXDomain, AA: true, Authority: []impl.RR{soa}}},
	} {
		c.want.Last = c.name
		got, code := impl.Resolve(z, c.name, impl.TypeNS)
		if code != impl.OK || !sameResult(got, c.want) {
			t.Errorf("Resolve(%q) = %s, %d", c.name, tellResult(got), code)
		}
	}
}
