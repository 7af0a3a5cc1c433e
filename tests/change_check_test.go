package tests

import (
	"math/rand"
	"slices"
	"testing"

	"loop.example/s01858/impl"
)

// changedZone is the zone of the tests of conditions.
const changedZone = `@ NS ns
@ NS ns2
@ TXT apex
Web A 192.0.2.1
web A 192.0.2.2
mail MX 10 Web
alias CNAME web
x.y.ent A 192.0.2.3
sub NS ns.sub
free TYPE65280 \# 0
`

func checkCondition(t *testing.T, tell string, z impl.Zone, list []impl.RR, want, code int64) {
	t.Helper()
	if got, gotCode := impl.CheckConditions(z, list); got != want || gotCode != code {
		t.Errorf("%s: CheckConditions = %d, %d, want %d, %d", tell, got, gotCode, want, code)
	}
}

func TestConditions(t *testing.T) {
	z := zoneWith(t, 7, changedZone)
	for text, want := range map[string]int64{
		"": impl.NoError,
		// An owner is there.
		"?web": impl.NoError, "?WEB": impl.NoError, "?@": impl.NoError, "?x.y.ent": impl.NoError, "?sub": impl.NoError,
		"?no": impl.NXDomain, "?y.ent": impl.NXDomain, "?ent": impl.NXDomain, "?a.web": impl.NXDomain, "?ns.sub": impl.NXDomain,
		"?example.com.": impl.NotZone, "?.": impl.NotZone, "?xexample.": impl.NotZone, "?EXAMPLE.": impl.NoError,
		// A set is there.
		"?web A": impl.NoError, "?wEb A": impl.NoError, "?web AAAA": impl.NXRRSet, "?no A": impl.NXRRSet, "?@ SOA": impl.NoError,
		"?alias CNAME": impl.NoError, "?alias A": impl.NXRRSet, "?web TYPE0": impl.NXRRSet, "?web OPT": impl.NXRRSet, "?web AXFR": impl.NXRRSet,
		"?web TYPE65535": impl.NXRRSet, "?free TYPE65280": impl.NoError,
		// An owner is not there.
		"!no": impl.NoError, "!ent": impl.NoError, "!web": impl.YXDomain, "!WEB": impl.YXDomain, "!@": impl.YXDomain, "!com.": impl.NotZone,
		// A set is not there.
		"!web AAAA": impl.NoError, "!no A": impl.NoError, "!web A": impl.YXRRSet, "!WEB A": impl.YXRRSet, "!@ NS": impl.YXRRSet,
		"!web AXFR": impl.NoError, "!web TYPE0": impl.NoError, "!com. A": impl.NotZone,
		// A set is just so.
		"=web A 192.0.2.1; =web A 192.0.2.2":                   impl.NoError,
		"=web A 192.0.2.2; =WEB A 192.0.2.1; =weB A 192.0.2.2": impl.NoError,
		"=web A 192.0.2.1":                                          impl.NXRRSet,
		"=web A 192.0.2.2":                                          impl.NXRRSet,
		"=web A 192.0.2.1; =web A 192.0.2.1":                        impl.NXRRSet,
		"=web A 192.0.2.1; =web A 192.0.2.2; =web A 192.0.2.3":      impl.NXRRSet,
		"=web A 192.0.2.1; =web A 192.0.2.3":                        impl.NXRRSet,
		"=mail MX 10 WEB":                                           impl.NoError,
		"=mail MX 10 WEB; =MAIL MX 10 web":                          impl.NoError,
		"=mail MX 11 web":                                           impl.NXRRSet,
		"=no A 192.0.2.1":                                           impl.NXRRSet,
		"=@ TXT apex":                                               impl.NoError,
		"=@ TXT Apex":                                               impl.NXRRSet,
		"=@ NS ns; =@ NS NS2":                                       impl.NoError,
		"=@ SOA NS admin 7 7200 900 86400 300":                      impl.NoError,
		"=@ SOA ns admin 8 7200 900 86400 300":                      impl.NXRRSet,
		"=free TYPE65280 \\# 0":                                     impl.NoError,
		"=free TYPE65281 \\# 0":                                     impl.NXRRSet,
		"=mail MX 10 web; =web A 192.0.2.1; =web A 192.0.2.2; ?web": impl.NoError,
		"=mail MX 10 web; =web A 192.0.2.1":                         impl.NXRRSet,
		"=web A 192.0.2.1; =mail MX 10 web":                         impl.NXRRSet,
		"=com. A 192.0.2.1":                                         impl.NotZone,
		// The first that is not met; sets that must be just so come last.
		"?no; !web":                        impl.NXDomain,
		"!web; ?no":                        impl.YXDomain,
		"?web; !web A; ?no":                impl.YXRRSet,
		"?web; ?web AAAA; !web":            impl.NXRRSet,
		"?com.; ?no":                       impl.NotZone,
		"=web A 192.0.2.9; ?no":            impl.NXDomain,
		"=web A 192.0.2.9; !com.":          impl.NotZone,
		"=web A 192.0.2.9; !web A":         impl.YXRRSet,
		"?web; !no; ?web A; !web MX; ?@":   impl.NoError,
		"=web A 192.0.2.1; ?web; ?mail MX": impl.NXRRSet,
	} {
		checkCondition(t, text, z, asks(t, text), want, impl.OK)
	}
}

func TestConditionsOfForm(t *testing.T) {
	z := zoneWith(t, 7, changedZone)
	web, out := named(t, "web"), nm("com")
	for i, c := range []struct {
		rr   impl.RR
		want int64
	}{
		{impl.RR{Owner: web, Type: 1, Class: 1, TTL: 1, Data: "abcd"}, impl.FormErr},
		{impl.RR{Owner: web, Type: 255, Class: 255, TTL: 1}, impl.FormErr},
		{impl.RR{Owner: web, Type: 28, Class: 254, TTL: 4294967295}, impl.FormErr},
		{impl.RR{Owner: out, Type: 28, Class: 254, TTL: 1}, impl.FormErr},
		{impl.RR{Owner: web, Type: 1, Class: 255, Data: "abcd"}, impl.FormErr},
		{impl.RR{Owner: web, Type: 255, Class: 255, Data: "abcd"}, impl.FormErr},
		{impl.RR{Owner: out, Type: 1, Class: 255, Data: "abcd"}, impl.NotZone},
		{impl.RR{Owner: web, Type: 28, Class: 254, Data: "abcdabcdabcdabcd"}, impl.FormErr},
		{impl.RR{Owner: web, Type: 255, Class: 254, Data: "abcd"}, impl.FormErr},
		{impl.RR{Owner: out, Type: 255, Class: 254, Data: "abcd"}, impl.NotZone},
		{impl.RR{Owner: web, Type: 1, Class: 1}, impl.FormErr},
		{impl.RR{Owner: web, Type: 2, Class: 1}, impl.FormErr},
		{impl.RR{Owner: web, Type: 65280, Class: 1}, impl.NXRRSet},
		{impl.RR{Owner: web, Type: 0, Class: 1, Data: "abcd"}, impl.FormErr},
		{impl.RR{Owner: web, Type: 41, Class: 1}, impl.FormErr},
		{impl.RR{Owner: web, Type: 255, Class: 1}, impl.FormErr},
		{impl.RR{Owner: web, Type: 252, Class: 1, Data: "x"}, impl.FormErr},
		{impl.RR{Owner: out, Type: 252, Class: 1, Data: "x"}, impl.NotZone},
		{impl.RR{Owner: web, Type: 248, Class: 1, Data: "x"}, impl.NXRRSet},
		{impl.RR{Owner: web, Type: 1, Class: 3, Data: "abcd"}, impl.FormErr},
		{impl.RR{Owner: web, Type: 1, Class: 0}, impl.FormErr},
		{impl.RR{Owner: web, Type: 255, Class: 253}, impl.FormErr},
		{impl.RR{Owner: web, Type: 255, Class: 65535}, impl.FormErr},
		{impl.RR{Owner: out, Type: 255, Class: 3}, impl.NotZone},
	} {
		checkCondition(t, itoa(i), z, []impl.RR{c.rr}, c.want, impl.OK)
		checkCondition(t, itoa(i)+" ahead", z, append([]impl.RR{c.rr}, asks(t, "?no")...), map[bool]int64{true: impl.NXDomain, false: c.want}[c.want == impl.NXRRSet], impl.OK)
		checkCondition(t, itoa(i)+" behind", z, append(asks(t, "?no"), c.rr), impl.NXDomain, impl.OK)
	}
}

// unsound is lists that are not sound, by a telling text.
func unsound() map[string][]impl.RR {
	web := inEx("web")
	out := map[string][]impl.RR{"one more than MaxEntries": slices.Repeat([]impl.RR{{Owner: web, Type: 1, Class: 255}}, 401)}
	for tell, rr := range map[string]impl.RR{
		"no owner":          {Owner: "", Type: 1, Class: 255},
		"no name":           {Owner: web + "x", Type: 1, Class: 255},
		"a type below":      {Owner: web, Type: -1, Class: 255},
		"a type above":      {Owner: web, Type: 65536, Class: 255},
		"a class below":     {Owner: web, Type: 1, Class: -1},
		"a class above":     {Owner: web, Type: 1, Class: 65536},
		"a TTL below":       {Owner: web, Type: 1, Class: 1, TTL: -1, Data: "abcd"},
		"a TTL above":       {Owner: web, Type: 1, Class: 1, TTL: 4294967296, Data: "abcd"},
		"data of A":         {Owner: web, Type: 1, Class: 1, Data: "abc"},
		"data of A to drop": {Owner: web, Type: 1, Class: 254, Data: "abcde"},
		"data of A of all":  {Owner: web, Type: 1, Class: 255, Data: "abcde"},
		"data of NS":        {Owner: web, Type: 2, Class: 1, Data: web[1:]},
	} {
		out[tell] = []impl.RR{rr}
		out[tell+", behind one that is not met"] = []impl.RR{{Owner: nm("com"), Type: 1, Class: 255, TTL: 1}, rr}
	}
	return out
}

func TestConditionsNotValid(t *testing.T) {
	z := zoneWith(t, 7, changedZone)
	for tell, list := range unsound() {
		checkCondition(t, tell, z, list, 0, impl.ErrForm)
	}
	many := slices.Repeat(asks(t, "?web"), 400)
	checkCondition(t, "MaxEntries conditions", z, many, impl.NoError, impl.OK)
	many[399] = asks(t, "!web")[0]
	checkCondition(t, "the last of MaxEntries", z, many, impl.YXDomain, impl.OK)
	for tell, ill := range map[string]impl.Zone{
		"no zone": {}, "no sets": {Apex: inEx()}, "no SOA": {Apex: z.Apex, Sets: z.Sets[1:2]},
		"another apex": {Apex: named(t, "web"), Sets: z.Sets}, "sets twice": {Apex: z.Apex, Sets: append(slices.Clone(z.Sets), z.Sets...)},
	} {
		checkCondition(t, tell, ill, nil, 0, impl.ErrForm)
		checkCondition(t, tell, ill, asks(t, "?com."), 0, impl.ErrForm)
	}
}

func TestConditionsAnyZone(t *testing.T) {
	r := rand.New(rand.NewSource(112))
	met := map[int64]int{}
	for n := range 3000 {
		z := changeZone(t, r, apexes()[n%3], 8)
		list := conditionsIn(r, z, 3)
		if n%4 == 0 {
			list = append(list, conditionIn(r, z), conditionIn(r, z))
		}
		if n%5 == 0 && len(list) > 0 {
			spoilAsk(r, &list[r.Intn(len(list))])
		}
		if n%50 == 0 {
			bendZone(r, &z)
		}
		want, code := conditionsOf(z, list)
		checkCondition(t, tellZone(z)+" and "+tellRecords(list), z, list, want, code)
		met[want]++
	}
	for _, want := range []int64{impl.NoError, impl.FormErr, impl.NXDomain, impl.YXDomain, impl.YXRRSet, impl.NXRRSet, impl.NotZone} {
		if met[want] < 20 {
			t.Errorf("only %d lists answered %d", met[want], want)
		}
	}
}

func checkForm(t *testing.T, tell, apex string, list []impl.RR, want, code int64) {
	t.Helper()
	if got, gotCode := impl.CheckChanges(apex, list); got != want || gotCode != code {
		t.Errorf("%s: CheckChanges = %d, %d, want %d, %d", tell, got, gotCode, want, code)
	}
}

// formCases are changes by themselves, and their codes.
func formCases() map[impl.RR]int64 {
	web, out := inEx("web"), nm("com")
	cases := map[impl.RR]int64{
		{Owner: web, Type: 1, Class: 1, TTL: 2147483647, Data: "abcd"}:   impl.NoError,
		{Owner: web, Type: 1, Class: 1, TTL: 2147483648, Data: "abcd"}:   impl.FormErr,
		{Owner: web, Type: 1, Class: 1, TTL: 4294967295, Data: "abcd"}:   impl.FormErr,
		{Owner: web, Type: 1, Class: 1, TTL: 60}:                         impl.FormErr,
		{Owner: web, Type: 5, Class: 1, TTL: 60}:                         impl.FormErr,
		{Owner: web, Type: 65280, Class: 1, TTL: 60}:                     impl.NoError,
		{Owner: web, Type: 65280, Class: 1, Data: "x"}:                   impl.NoError,
		{Owner: out, Type: 1, Class: 1, TTL: 2147483648, Data: "abcd"}:   impl.NotZone,
		{Owner: root, Type: 1, Class: 1, Data: "abcd"}:                   impl.NotZone,
		{Owner: nm("xexample"), Type: 1, Class: 1, Data: "abcd"}:         impl.NotZone,
		{Owner: nm("EXAMPLE"), Type: 1, Class: 1, Data: "abcd"}:          impl.NoError,
		{Owner: web, Type: 255, Class: 255}:                              impl.NoError,
		{Owner: web, Type: 255, Class: 255, TTL: 1}:                      impl.FormErr,
		{Owner: web, Type: 255, Class: 255, Data: "x"}:                   impl.FormErr,
		{Owner: web, Type: 1, Class: 255}:                                impl.NoError,
		{Owner: web, Type: 1, Class: 255, TTL: 1}:                        impl.FormErr,
		{Owner: web, Type: 1, Class: 255, Data: "abcd"}:                  impl.FormErr,
		{Owner: out, Type: 1, Class: 255, TTL: 1}:                        impl.NotZone,
		{Owner: web, Type: 6, Class: 255}:                                impl.NoError,
		{Owner: web, Type: 1, Class: 254, Data: "abcd"}:                  impl.NoError,
		{Owner: web, Type: 1, Class: 254, TTL: 1, Data: "abcd"}:          impl.FormErr,
		{Owner: web, Type: 1, Class: 254, TTL: 4294967295, Data: "abcd"}: impl.FormErr,
		{Owner: web, Type: 1, Class: 254}:                                impl.FormErr,
		{Owner: web, Type: 65280, Class: 254}:                            impl.NoError,
		{Owner: out, Type: 1, Class: 254}:                                impl.NotZone,
		{Owner: web, Type: 1, Class: 0, Data: "abcd"}:                    impl.FormErr,
		{Owner: web, Type: 1, Class: 2, Data: "abcd"}:                    impl.FormErr,
		{Owner: web, Type: 1, Class: 3, Data: "abcd"}:                    impl.FormErr,
		{Owner: web, Type: 1, Class: 253, Data: "abcd"}:                  impl.FormErr,
		{Owner: web, Type: 255, Class: 256}:                              impl.FormErr,
		{Owner: web, Type: 1, Class: 65535}:                              impl.FormErr,
		{Owner: out, Type: 1, Class: 3, Data: "abcd"}:                    impl.NotZone,
	}
	for _, meta := range metaTypes() {
		cases[impl.RR{Owner: web, Type: meta, Class: 1, Data: "x"}] = impl.FormErr
		cases[impl.RR{Owner: web, Type: meta, Class: 254, Data: "x"}] = impl.FormErr
		cases[impl.RR{Owner: web, Type: meta, Class: 254}] = impl.FormErr
		if meta != impl.TypeANY {
			cases[impl.RR{Owner: web, Type: meta, Class: 255}] = impl.FormErr
		}
	}
	return cases
}

func TestChangesForm(t *testing.T) {
	for rr, want := range formCases() {
		tell := tellRecords([]impl.RR{rr})
		checkForm(t, tell, inEx(), []impl.RR{rr}, want, impl.OK)
		checkForm(t, tell+" in other letters", nm("exAmple"), []impl.RR{rr}, want, impl.OK)
		fine := impl.RR{Owner: inEx("a"), Type: 1, Class: 255}
		checkForm(t, tell+" behind", inEx(), []impl.RR{fine, rr}, want, impl.OK)
		for other, code := range map[impl.RR]int64{{Owner: root, Class: 255}: impl.NotZone, {Owner: inEx(), Class: 9}: impl.FormErr} {
			first := want
			if want == impl.NoError {
				first = code
			}
			checkForm(t, tell+" ahead", inEx(), []impl.RR{rr, other}, first, impl.OK)
			checkForm(t, tell+" second", inEx(), []impl.RR{other, rr}, code, impl.OK)
		}
	}
	checkForm(t, "nothing", inEx(), nil, impl.NoError, impl.OK)
	checkForm(t, "the root", root, []impl.RR{{Owner: nm("com"), Type: 1, Class: 255}}, impl.NoError, impl.OK)
	checkForm(t, "MaxEntries", inEx(), slices.Repeat(asks(t, "-web"), 400), impl.NoError, impl.OK)
}

func TestChangesFormNotValid(t *testing.T) {
	for tell, list := range unsound() {
		checkForm(t, tell, inEx(), list, 0, impl.ErrForm)
	}
	for _, apex := range noNames() {
		checkForm(t, "no apex", apex, nil, 0, impl.ErrForm)
		checkForm(t, "no apex", apex, asks(t, "-web"), 0, impl.ErrForm)
	}
}

func TestChangesFormAnyList(t *testing.T) {
	r := rand.New(rand.NewSource(113))
	for n := range 3000 {
		z := changeZone(t, r, apexes()[n%3], 3)
		list := changesIn(r, z, 5)
		for range r.Intn(3) {
			if len(list) > 0 {
				spoilAsk(r, &list[r.Intn(len(list))])
			}
		}
		want, code := changesOf(z.Apex, list)
		checkForm(t, tellRecords(list), z.Apex, list, want, code)
	}
}
