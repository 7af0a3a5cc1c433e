package tests

import (
	"math"
	"math/rand"
	"strings"
	"testing"

	"loop.example/s01858/impl"
)

func TestStepKindsAndReplyCodes(t *testing.T) {
	kinds := []int64{impl.StepOutside, impl.StepReferral, impl.StepAnswer, impl.StepAlias, impl.StepNoData, impl.StepTail, impl.StepLong, impl.StepNoName}
	for i, kind := range kinds {
		if kind != int64(i+1) {
			t.Errorf("the kind number %d is %d", i+1, kind)
		}
	}
	codes := []int64{impl.NoError, impl.FormErr, impl.ServFail, impl.NXDomain, impl.NotImp, impl.Refused, impl.YXDomain, impl.YXRRSet, impl.NXRRSet, impl.NotAuth, impl.NotZone}
	for i, code := range codes {
		if code != int64(i) {
			t.Errorf("the code number %d is %d", i, code)
		}
	}
	if impl.BadVers != 16 {
		t.Errorf("BadVers = %d", impl.BadVers)
	}
}

// askedZone has whatever a name can be in a zone.
const askedZone = `
$TTL 3600
@         SOA   ns1 admin 7 7200 900 86400 300
@         NS    ns1
@         NS    ns.sub
@         NS    ns.elsewhere.
ns1       A     192.0.2.2
ns1       A     192.0.2.1
ns1       AAAA  2001:db8::1
Web  600  A     192.0.2.80
Web  700  TXT   "web"
Web  800  AAAA  2001:db8::80
www  60   CNAME web
two       CNAME WWW
away      CNAME www.elsewhere.
lost      CNAME none
hollow    CNAME ent
below     CNAME h.sub
under     CNAME a.old
self      CNAME Self
c1        CNAME c2
c2        CNAME C1
signed    CNAME web
signed    NSEC  web CNAME NSEC
*.w       TXT   "wild"
*.w  90   MX    10 Web
host.w    A     192.0.2.7
x.y.w     A     192.0.2.8
*.cn      CNAME web
*.loop    CNAME a.loop
a.*.e     A     192.0.2.6
sub       NS    ns.SUB
sub       NS    ns1
sub       NS    ns.elsewhere.
sub       TXT   "cut"
ns.sub    A     192.0.2.53
ns.sub    AAAA  2001:db8::53
deep.sub  NS    ns.deep.sub
*.sub     A     192.0.2.54
cold      NS    ns.elsewhere.
old  50   DNAME New
old       TXT   "old"
a.new     A     192.0.2.5
out       DNAME elsewhere.
coil      DNAME x.coil
x.y.ent   A     192.0.2.9
mail      MX    10 web
mail      MX    20 WEB
mail      MX    30 ns.sub
mail      MX    40 mail
mail      MX    50 none
mail      MX    60 www
mail      MX    70 mx.elsewhere.
mail      MX    80 sub
mail      A     192.0.2.25
_srv      SRV   1 2 3 Ns1
_srv      SRV   2 2 3 web
`

// stepCase is a step as it should be; its sets are a text.
type stepCase struct {
	name, qtype string
	kind        int64
	wild        bool
	target      string
	sets        string
}

func checkStep(t *testing.T, z impl.Zone, c stepCase) {
	t.Helper()
	want := impl.Step{Kind: c.kind, Wild: c.wild}
	if c.target != "" {
		want.Target = named(t, c.target)
	}
	for _, rr := range records(t, c.sets) {
		last := len(want.Sets) - 1
		if last < 0 || want.Sets[last].Type != rr.Type {
			want.Sets = append(want.Sets, impl.Set{Owner: rr.Owner, Type: rr.Type, TTL: rr.TTL})
			last++
		}
		want.Sets[last].Data = append(want.Sets[last].Data, rr.Data)
	}
	got, code := impl.LookStep(z, named(t, c.name), typed(t, c.qtype))
	if code != impl.OK || !sameStep(got, want) {
		t.Errorf("LookStep(%s, %s) = %+v, %d, want %+v", c.name, c.qtype, got, code, want)
	}
}

func TestLookStep(t *testing.T) {
	z := zoneText(t, askedZone)
	for _, c := range []stepCase{
		// outside
		{"elsewhere.", "A", impl.StepOutside, false, "", ""},
		{".", "NS", impl.StepOutside, false, "", ""},
		{"xexample.", "A", impl.StepOutside, false, "", ""},
		{"example.com.", "ANY", impl.StepOutside, false, "", ""},
		// a cut, below one, below two
		{"sub", "NS", impl.StepReferral, false, "", "sub NS ns.SUB\nsub NS ns.elsewhere.\nsub NS ns1"},
		{"SUB.EXAMPLE.", "TXT", impl.StepReferral, false, "", "sub NS ns.SUB\nsub NS ns.elsewhere.\nsub NS ns1"},
		{"ns.sub", "A", impl.StepReferral, false, "", "sub NS ns.SUB\nsub NS ns.elsewhere.\nsub NS ns1"},
		{"none.sub", "ANY", impl.StepReferral, false, "", "sub NS ns.SUB\nsub NS ns.elsewhere.\nsub NS ns1"},
		{"q.deep.sub", "A", impl.StepReferral, false, "", "sub NS ns.SUB\nsub NS ns.elsewhere.\nsub NS ns1"},
		{"cold", "A", impl.StepReferral, false, "", "cold NS ns.elsewhere."},
		// the apex is no cut
		{"@", "NS", impl.StepAnswer, false, "", "@ NS ns.sub\n@ NS ns.elsewhere.\n@ NS ns1"},
		{"@", "SOA", impl.StepAnswer, false, "", "@ SOA ns1 admin 7 7200 900 86400 300"},
		{"@", "A", impl.StepNoData, false, "", ""},
		{"@", "ANY", impl.StepAnswer, false, "", "@ NS ns.sub\n@ NS ns.elsewhere.\n@ NS ns1\n@ SOA ns1 admin 7 7200 900 86400 300"},
		// the asked type, all types, none
		{"ns1", "A", impl.StepAnswer, false, "", "ns1 A 192.0.2.1\nns1 A 192.0.2.2"},
		{"web", "A", impl.StepAnswer, false, "", "Web 600 A 192.0.2.80"},
		{"WEB", "ANY", impl.StepAnswer, false, "", "Web 600 A 192.0.2.80\nWeb 700 TXT web\nWeb 800 AAAA 2001:db8::80"},
		{"web", "MX", impl.StepNoData, false, "", ""},
		{"web", "AXFR", impl.StepNoData, false, "", ""},
		{"ent", "A", impl.StepNoData, false, "", ""},
		{"Y.Ent", "ANY", impl.StepNoData, false, "", ""},
		{"*.w", "TXT", impl.StepAnswer, false, "", "*.w TXT wild"},
		{"*.w", "A", impl.StepNoData, false, "", ""},
		{"w", "TXT", impl.StepNoData, false, "", ""},
		// aliases
		{"www", "A", impl.StepAlias, false, "web", "www 60 CNAME web"},
		{"WWW", "TYPE65535", impl.StepAlias, false, "web", "www 60 CNAME web"},
		{"www", "CNAME", impl.StepAnswer, false, "", "www 60 CNAME web"},
		{"www", "ANY", impl.StepAnswer, false, "", "www 60 CNAME web"},
		{"signed", "A", impl.StepAlias, false, "web", "signed CNAME web"},
		{"signed", "NSEC", impl.StepAnswer, false, "", "signed NSEC web CNAME NSEC"},
		{"self", "A", impl.StepAlias, false, "Self", "self CNAME Self"},
		{"away", "A", impl.StepAlias, false, "www.elsewhere.", "away CNAME www.elsewhere."},
		// a DNAME holds below its owner, not at it
		{"old", "A", impl.StepNoData, false, "", ""},
		{"old", "DNAME", impl.StepAnswer, false, "", "old 50 DNAME New"},
		{"a.old", "A", impl.StepTail, false, "a.New", "old 50 DNAME New"},
		{"A.b.OLD.example.", "A", impl.StepTail, false, "A.b.New", "old 50 DNAME New"},
		{"a.old", "DNAME", impl.StepTail, false, "a.New", "old 50 DNAME New"},
		{"a.old", "CNAME", impl.StepTail, false, "a.New", "old 50 DNAME New"},
		{"a.old", "ANY", impl.StepTail, false, "a.New", "old 50 DNAME New"},
		{"a.out", "A", impl.StepTail, false, "a.elsewhere.", "out DNAME elsewhere."},
		// wildcards
		{"q.w", "TXT", impl.StepAnswer, true, "", "q.w TXT wild"},
		{"P.Q.W.EXAMPLE.", "MX", impl.StepAnswer, true, "", "P.Q.W.EXAMPLE. 90 MX 10 Web"},
		{"q.w", "ANY", impl.StepAnswer, true, "", "q.w 90 MX 10 Web\nq.w TXT wild"},
		{"q.w", "A", impl.StepNoData, true, "", ""},
		{"Q.cn", "A", impl.StepAlias, true, "web", "Q.cn CNAME web"},
		{"q.cn", "CNAME", impl.StepAnswer, true, "", "q.cn CNAME web"},
		{"q.cn", "ANY", impl.StepAnswer, true, "", "q.cn CNAME web"},
		{"q.e", "A", impl.StepNoData, true, "", ""},
		{"q.e", "ANY", impl.StepNoData, true, "", ""},
		// names that are there, or lie below one, hide a wildcard
		{"host.w", "TXT", impl.StepNoData, false, "", ""},
		{"q.host.w", "TXT", impl.StepNoName, false, "", ""},
		{"y.w", "TXT", impl.StepNoData, false, "", ""},
		{"q.y.w", "TXT", impl.StepNoName, false, "", ""},
		{"q.*.w", "TXT", impl.StepNoName, false, "", ""},
		{"*.none", "A", impl.StepNoName, false, "", ""},
		{"b.*.e", "A", impl.StepNoName, false, "", ""},
		{"none", "A", impl.StepNoName, false, "", ""},
		{"none", "ANY", impl.StepNoName, false, "", ""},
		{"a.b.c.none", "SOA", impl.StepNoName, false, "", ""},
		{"q.www", "A", impl.StepNoName, false, "", ""},
	} {
		checkStep(t, z, c)
	}
}

// The root as apex: every name is under it, and a wildcard below it stands for all that is not there.
func TestLookStepRoot(t *testing.T) {
	z := mustBuild(t, begun(root, rrOf(nm("*"), 16, "\x01w"), aRecord(nm("a", "b"), 60), rrOf(nm("c"), 2, nm("n"))), root)
	for _, c := range []struct {
		name        string
		qtype, kind int64
		wild        bool
	}{
		{root, 2, 3, false}, {root, 1, 5, false}, {nm("b"), 16, 5, false}, {nm("q"), 16, 3, true}, {nm("p", "q"), 1, 5, true},
		{nm("q", "b"), 16, 8, false}, {nm("q", "c"), 16, 2, false}, {nameOf(255), 16, 3, true},
	} {
		got, code := impl.LookStep(z, c.name, c.qtype)
		if code != impl.OK || got.Kind != c.kind || got.Wild != c.wild {
			t.Errorf("LookStep(%.80q, %d) = %+v, %d", c.name, c.qtype, got, code)
		}
	}
	z = mustBuild(t, begun(root, rrOf(root, impl.TypeDNAME, nm("a"))), root)
	got, code := impl.LookStep(z, nm("q"), 1)
	if code != impl.OK || got.Kind != impl.StepTail || got.Target != nm("q", "a") {
		t.Errorf("LookStep below a DNAME of the root = %+v, %d", got, code)
	}
}

// A DNAME's target of 255 bytes is asked, one of 256 is too long.
func TestLookStepLong(t *testing.T) {
	for _, c := range []struct {
		low, to int
		kind    int64
	}{
		{1, 253, impl.StepTail}, {1, 254, impl.StepLong}, {2, 252, impl.StepTail}, {2, 253, impl.StepLong},
		{40, 214, impl.StepTail}, {40, 215, impl.StepLong}, {1, 255, impl.StepLong}, {63, 255, impl.StepLong},
	} {
		tail := rrOf(inEx("d"), impl.TypeDNAME, nameOf(c.to))
		z := mustBuild(t, begun(inEx(), tail), inEx())
		low := st(strings.Repeat("x", c.low))
		want := impl.Step{Kind: c.kind, Sets: []impl.Set{{Owner: tail.Owner, Type: 39, TTL: 3600, Data: []string{tail.Data}}}}
		if c.kind == impl.StepTail {
			want.Target = low + nameOf(c.to)
		}
		got, code := impl.LookStep(z, low+inEx("d"), 1)
		if code != impl.OK || !sameStep(got, want) {
			t.Errorf("a label of %d and a target of %d: LookStep = %+v, %d", c.low, c.to, got, code)
		}
	}
}

// A wildcard's name may have 255 bytes; one of more than that can't be there.
func TestLookStepLongWild(t *testing.T) {
	for _, size := range []int{250, 251, 253} {
		e := nameOf(size)
		z := mustBuild(t, begun(root, aRecord(st("*")+e, 60)), root)
		got, code := impl.LookStep(z, st("q")+e, 1)
		if code != impl.OK || got.Kind != impl.StepAnswer || !got.Wild {
			t.Errorf("LookStep of a name of %d bytes = %+v, %d", size+2, got, code)
		}
	}
	e := nameOf(255)
	z := mustBuild(t, begun(root, aRecord(e, 60)), root)
	if got, code := impl.LookStep(z, e, 2); code != impl.OK || got.Kind != impl.StepNoData {
		t.Errorf("LookStep of a name of 255 bytes = %+v, %d", got, code)
	}
}

// The types 1 and 65535 may be asked, 0 and 65536 may not.
func TestLookTypes(t *testing.T) {
	z := mustBuild(t, begun(inEx(), rrOf(inEx("a"), 65535, "d"), aRecord(inEx("a"), 60)), inEx())
	for _, c := range []struct{ qtype, kind int64 }{{1, 3}, {65535, 3}, {2, 5}, {65534, 5}, {41, 5}, {250, 5}, {254, 5}, {255, 3}} {
		step, code := impl.LookStep(z, inEx("a"), c.qtype)
		if code != impl.OK || step.Kind != c.kind {
			t.Errorf("LookStep of type %d = %+v, %d", c.qtype, step, code)
		}
		if r, code := impl.Resolve(z, inEx("a"), c.qtype); code != impl.OK || !r.AA || (len(r.Answer) > 0) != (c.kind == 3) {
			t.Errorf("Resolve of type %d = %s, %d", c.qtype, tellResult(r), code)
		}
	}
	for _, qtype := range []int64{0, -1, 65536, 65537, 1 << 32, 1<<32 + 1, math.MaxInt64, math.MinInt64} {
		checkNoQuery(t, z, inEx("a"), qtype)
		checkNoQuery(t, z, nm("elsewhere"), qtype)
	}
}

// checkNoQuery holds both functions against what can't be asked: there is ErrForm, and nothing beside.
func checkNoQuery(t *testing.T, z impl.Zone, name string, qtype int64) {
	t.Helper()
	if step, code := impl.LookStep(z, name, qtype); code != impl.ErrForm || !sameStep(step, impl.Step{}) {
		t.Errorf("LookStep(%s, %.80q, %d) = %+v, %d", tellZone(z), name, qtype, step, code)
	}
	if r, code := impl.Resolve(z, name, qtype); code != impl.ErrForm || !sameResult(r, impl.Result{}) {
		t.Errorf("Resolve(%s, %.80q, %d) = %s, %d", tellZone(z), name, qtype, tellResult(r), code)
	}
}

// No name and no zone can't be asked.
func TestLookWrong(t *testing.T) {
	z := zoneText(t, askedZone)
	for _, name := range noNames() {
		checkNoQuery(t, z, name, 1)
	}
	r := rand.New(rand.NewSource(80))
	for range 300 {
		bent := cloneZone(z)
		bendZone(r, &bent)
		if impl.CheckZone(bent) != impl.OK {
			checkNoQuery(t, bent, inEx("web"), 1)
			checkNoQuery(t, bent, nm("elsewhere"), 1)
		}
	}
	checkNoQuery(t, impl.Zone{}, inEx(), 1)
	checkNoQuery(t, impl.Zone{Apex: inEx()}, inEx(), 1)
	apart := cloneZone(z)
	apart.Apex = nm("other")
	checkNoQuery(t, apart, inEx("web"), 1)
	capitals := cloneZone(z)
	capitals.Apex = capital(inEx())
	if step, code := impl.LookStep(capitals, inEx("web"), 1); code != impl.OK || step.Kind != impl.StepAnswer {
		t.Errorf("an apex in other letters: LookStep = %+v, %d", step, code)
	}
}
