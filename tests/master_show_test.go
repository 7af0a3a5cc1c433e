package tests

import (
	"math"
	"slices"
	"strings"
	"testing"

	"loop.example/s01858/impl"
)

// checkShow holds what ShowMaster answers against a text and a code.
func checkShow(t *testing.T, what string, list []impl.RR, text string, code int64) {
	t.Helper()
	if got, gotCode := impl.ShowMaster(list); got != text || gotCode != code {
		t.Errorf("%s: ShowMaster of %s = %.300q, %d, want %.300q, %d", what, tellRecords(list), got, gotCode, text, code)
	}
}

func TestShowMaster(t *testing.T) {
	checkShow(t, "none", nil, "", impl.OK)
	checkShow(t, "none", []impl.RR{}, "", impl.OK)
	checkShow(t, "the document's zone", exampleRecords(), `example. 3600 IN SOA ns1.example. admin.example. 7 7200 900 86400 300
example. 3600 IN NS ns1.example.
ns1.example. 3600 IN A 192.0.2.1
www.example. 3600 IN CNAME web.example.
web.example. 3600 IN A 192.0.2.80
*.w.example. 3600 IN TXT "wild"
sub.example. 3600 IN NS ns.sub.example.
ns.sub.example. 3600 IN A 192.0.2.53
old.example. 3600 IN DNAME new.example.
x.y.ent.example. 3600 IN A 192.0.2.9
`, impl.OK)
	checkShow(t, "the root", []impl.RR{rrOf(root, impl.TypeNS, root)}, ". 3600 IN NS .\n", impl.OK)
	checkShow(t, "marks", []impl.RR{rrOf(nm("$TTL", "@", "a b\n", "A;"), 99, "")}, "\\$TTL.\\@.a\\032b\\010.A\\;. 3600 IN TYPE99 \\# 0\n", impl.OK)
	checkShow(t, "as they come", []impl.RR{aRecord(nm("b"), 1), aRecord(nm("a"), 2), aRecord(nm("b"), 1)}, "b. 1 IN A 1.2.3.4\na. 2 IN A 1.2.3.4\nb. 1 IN A 1.2.3.4\n", impl.OK)
	for ttl, text := range map[int64]string{0: "0", 1: "1", 604800: "604800", 2147483647: "2147483647"} {
		checkShow(t, "a time", []impl.RR{aRecord(nm("a"), ttl)}, "a. "+text+" IN A 1.2.3.4\n", impl.OK)
	}
}

// Each type's data is told as ShowData tells it.
func TestShowMasterTypes(t *testing.T) {
	for _, c := range showCases() {
		list := []impl.RR{rrOf(nm("x"), c.rtype, c.data)}
		if len(c.want) > 39000 {
			checkShow(t, "too much", list, "", impl.ErrSize)
			continue
		}
		if !isMasterList(list) {
			checkShow(t, "a meta type", list, "", impl.ErrForm)
			continue
		}
		checkShow(t, "a type", list, "x. 3600 IN "+impl.ShowType(c.rtype)+" "+c.want+"\n", impl.OK)
	}
	for _, rtype := range []int64{3, 40, 42, 248, 256, 258, 65535} {
		checkShow(t, "a type without a form", []impl.RR{rrOf(root, rtype, "\xab")}, ". 3600 IN TYPE"+itoa(int(rtype))+" \\# 1 ab\n", impl.OK)
	}
}

// One ill record spoils the list, wherever it stands, and is told ahead of what is too long.
func TestShowMasterForm(t *testing.T) {
	good := aRecord(nm("x"), 5)
	var ill []impl.RR
	for _, name := range noNames() {
		ill = append(ill, aRecord(name, 5))
	}
	for _, class := range []int64{-1, 0, 2, 3, 254, 255, 65537, math.MaxInt64, math.MinInt64, 1<<32 + 1} {
		rr := good
		rr.Class = class
		ill = append(ill, rr)
	}
	for _, ttl := range []int64{-1, 2147483648, 4294967295, 4294967301, math.MaxInt64, math.MinInt64} {
		ill = append(ill, aRecord(nm("x"), ttl))
	}
	for _, rtype := range append(metaTypes(), noTypes()...) {
		ill = append(ill, rrOf(nm("x"), rtype, ""), rrOf(nm("x"), rtype, "\x01\x02\x03\x04"))
	}
	for _, rtype := range formTypes() {
		ill = append(ill, rrOf(nm("x"), rtype, ""), rrOf(nm("x"), rtype, "\x05"), rrOf(nm("x"), rtype, strings.Repeat("\x00", 65536)))
	}
	ill = append(ill, rrOf(nm("x"), 99, strings.Repeat("y", 65536)), rrOf(nm("x"), impl.TypeA, "\x01\x02\x03\x04\x05"), rrOf(nm("x"), impl.TypeTXT, "\x02a"))
	long := rrOf(nm("x"), 99, strings.Repeat("y", 65535))
	for _, rr := range ill {
		for _, list := range [][]impl.RR{{rr}, {good, rr}, {rr, good}, {good, good, rr, good}, {long, rr}, {rr, long}} {
			checkShow(t, "an ill record", list, "", impl.ErrForm)
		}
		checkShow(t, "an ill record of too many", append(slices.Repeat([]impl.RR{good}, 500), rr), "", impl.ErrCount)
		checkShow(t, "an ill record, the last", append(slices.Repeat([]impl.RR{good}, 499), rr), "", impl.ErrForm)
	}
}

func TestShowMasterMaxRecords(t *testing.T) {
	good := aRecord(nm("x"), 5)
	checkShow(t, "500 records", slices.Repeat([]impl.RR{good}, 500), strings.Repeat("x. 5 IN A 1.2.3.4\n", 500), impl.OK)
	checkShow(t, "501 records", slices.Repeat([]impl.RR{good}, 501), "", impl.ErrCount)
	checkShow(t, "many records", make([]impl.RR, 1000000), "", impl.ErrCount)
	checkShow(t, "too many and too long", slices.Repeat([]impl.RR{rrOf(root, 99, strings.Repeat("y", 65535))}, 501), "", impl.ErrCount)
}

// A text of 40000 bytes is written; one of more is not, be it by one record or by many.
func TestShowMasterMaxFile(t *testing.T) {
	caa := func(size int) impl.RR {
		// ". 5 IN CAA 0 a " and two quotes and the newline are 18 bytes
		return impl.RR{Owner: root, Type: impl.TypeCAA, Class: 1, TTL: 5, Data: "\x00\x01a" + strings.Repeat("v", size-18)}
	}
	line := func(size int) string { return ". 5 IN CAA 0 a \"" + strings.Repeat("v", size-18) + "\"\n" }
	checkShow(t, "one record of 40000", []impl.RR{caa(40000)}, line(40000), impl.OK)
	checkShow(t, "one record of 40001", []impl.RR{caa(40001)}, "", impl.ErrSize)
	checkShow(t, "two of 20000", []impl.RR{caa(20000), caa(20000)}, line(20000)+line(20000), impl.OK)
	checkShow(t, "two of 20000 and 20001", []impl.RR{caa(20000), caa(20001)}, "", impl.ErrSize)
	checkShow(t, "500 of 80", slices.Repeat([]impl.RR{caa(80)}, 500), strings.Repeat(line(80), 500), impl.OK)
	checkShow(t, "500 of 80, the last of 81", append(slices.Repeat([]impl.RR{caa(80)}, 499), caa(81)), "", impl.ErrSize)
	checkShow(t, "one of many bytes", []impl.RR{rrOf(root, 99, strings.Repeat("y", 65535))}, "", impl.ErrSize)
	checkShow(t, "500 of many bytes", slices.Repeat([]impl.RR{rrOf(root, 99, strings.Repeat("y", 65535))}, 500), "", impl.ErrSize)
	checkShow(t, "500 of all types", slices.Repeat([]impl.RR{rrOf(root, impl.TypeNSEC, root+allTypesMap())}, 500), "", impl.ErrSize)
}
