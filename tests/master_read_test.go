package tests

import (
	"strings"
	"testing"

	"loop.example/s01858/impl"
)

// exampleZone is the zone of chapter 19.
const exampleZone = `$ORIGIN example.
$TTL 3600
@       SOA ns1 admin 7 7200 900 86400 300
        NS  ns1
ns1     A   192.0.2.1
www     CNAME web
web     A   192.0.2.80
*.w     TXT "wild"
sub     NS  ns.sub
ns.sub  A   192.0.2.53
old     DNAME new
x.y.ent A   192.0.2.9
`

// inEx is a name below example.
func inEx(labels ...string) string { return nm(append(labels, "example")...) }

// aRecord is a record of an address, 1.2.3.4.
func aRecord(owner string, ttl int64) impl.RR {
	return impl.RR{Owner: owner, Type: impl.TypeA, Class: 1, TTL: ttl, Data: "\x01\x02\x03\x04"}
}

func exampleRecords() []impl.RR {
	return []impl.RR{
		rrOf(inEx(), impl.TypeSOA, inEx("ns1")+inEx("admin")+"\x00\x00\x00\x07\x00\x00\x1c\x20\x00\x00\x03\x84\x00\x01\x51\x80\x00\x00\x01\x2c"),
		rrOf(inEx(), impl.TypeNS, inEx("ns1")),
		rrOf(inEx("ns1"), impl.TypeA, "\xc0\x00\x02\x01"),
		rrOf(inEx("www"), impl.TypeCNAME, inEx("web")),
		rrOf(inEx("web"), impl.TypeA, "\xc0\x00\x02\x50"),
		rrOf(inEx("*", "w"), impl.TypeTXT, "\x04wild"),
		rrOf(inEx("sub"), impl.TypeNS, inEx("ns", "sub")),
		rrOf(inEx("ns", "sub"), impl.TypeA, "\xc0\x00\x02\x35"),
		rrOf(inEx("old"), impl.TypeDNAME, inEx("new")),
		rrOf(inEx("x", "y", "ent"), impl.TypeA, "\xc0\x00\x02\x09"),
	}
}

// The document's zone, with its own origin, whatever was given, and with the one that was given.
func TestReadMasterExample(t *testing.T) {
	for _, origin := range []string{"", root, nm("other"), inEx()} {
		checkMaster(t, exampleZone, origin, exampleRecords()...)
	}
	_, bare, _ := strings.Cut(exampleZone, "\n")
	checkMaster(t, bare, inEx(), exampleRecords()...)
	checkMaster(t, strings.ReplaceAll(exampleZone, "\n", "\r\n"), "", exampleRecords()...)
	checkMasterFault(t, bare, "", impl.ErrRelative, 2)
	checkMaster(t, "", inEx())
	checkMaster(t, "\n ; nothing\n\n()", "")
}

// Data of every kind of words, over several lines and with comments within.
func TestReadMasterData(t *testing.T) {
	for _, c := range []struct {
		text  string
		rtype int64
		data  string
	}{
		{"SOA ns admin ( 1 ; serial\n 2h 3 ; more\n\n 4 5 )", impl.TypeSOA, inEx("ns") + inEx("admin") + be(1, 4) + be(7200, 4) + be(3, 4) + be(4, 4) + be(5, 4)},
		{"MX 10 mail", impl.TypeMX, "\x00\x0a" + inEx("mail")},
		{"mx 10 MAIL.", impl.TypeMX, "\x00\x0a" + nm("MAIL")},
		{"TXT a\"b c\"d \"\"", impl.TypeTXT, st("a") + st("b c") + st("d") + st("")},
		{"TXT \";(\" \\; \\( \\\" \"\\\"\"", impl.TypeTXT, st(";(") + st(";") + st("(") + st("\"") + st("\"")},
		{"TXT 5 IN \"A\"", impl.TypeTXT, st("5") + st("IN") + st("A")},
		{"CNAME @", impl.TypeCNAME, inEx()},
		{"CNAME .", impl.TypeCNAME, root},
		{"CNAME a\\.b\\ c\\;", impl.TypeCNAME, inEx("a.b c;")},
		{"AAAA 2001:db8::1", impl.TypeAAAA, v6(0x2001, 0xdb8, 0, 0, 0, 0, 0, 1)},
		{"SRV 1 2 3 @", impl.TypeSRV, "\x00\x01\x00\x02\x00\x03" + inEx()},
		{"HINFO \"PC\"Linux", impl.TypeHINFO, st("PC") + st("Linux")},
		{"NAPTR 1 2 \"u\" \"\" x .", impl.TypeNAPTR, "\x00\x01\x00\x02" + st("u") + st("") + st("x") + root},
		{"CAA 0 issue \"ca; x\"", impl.TypeCAA, "\x00\x05issueca; x"},
		{"NSEC b A MX TYPE46 NSEC", impl.TypeNSEC, inEx("b") + "\x00\x06\x40\x01\x00\x00\x00\x03"},
		{"NSEC b", impl.TypeNSEC, inEx("b")},
		{"TYPE1 1.2.3.4", impl.TypeA, "\x01\x02\x03\x04"},
		{"A \\# 4 01020304", impl.TypeA, "\x01\x02\x03\x04"},
		{"A \\# ( 4 01\n02 ; c\n0304 )", impl.TypeA, "\x01\x02\x03\x04"},
		{"TYPE731 \\# 0", 731, ""},
		{"type731 \\# 3 a bC dEf", 731, "\xab\xcd\xef"},
		{"TYPE00099 \\# 1 ff", 99, "\xff"},
		{"TYPE65535 \\# 1 00", 65535, "\x00"},
		{"TYPE248 \\# 0", 248, ""},
		{"TYPE256 \\# 0", 256, ""},
		{"TYPE40 \\# 0", 40, ""},
		{"TYPE42 \\# 0", 42, ""},
	} {
		want := impl.RR{Owner: inEx("x"), Type: c.rtype, Class: 1, TTL: 9, Data: c.data}
		checkMaster(t, "x 9 IN "+c.text+"\n", inEx(), want)
		checkMaster(t, "$TTL 9\nx "+c.text, inEx(), want)
		checkMaster(t, "x 9 A 1.2.3.4\n\n IN "+c.text+" ; c\n", inEx(), aRecord(inEx("x"), 9), want)
	}
}

// A time and a class, in either order, or one of them, or none; with and without an owner.
func TestReadMasterFronts(t *testing.T) {
	for _, front := range []string{"7 IN", "IN 7", "7", "7 in", "iN 7", "CLASS1 7", "7 class00001", "0000000007 cLaSs01", "7s", "In 7S", "(7\nIN)", "0s7s IN"} {
		checkMaster(t, "x "+front+" A 1.2.3.4", root, aRecord(nm("x"), 7))
		checkMaster(t, "y 8 A 1.2.3.4\n "+front+" A 1.2.3.4", root, aRecord(nm("y"), 8), aRecord(nm("y"), 7))
		checkMaster(t, "$TTL 8\ny A 1.2.3.4\n\t"+front+" A 1.2.3.4\nz A 1.2.3.4", root, aRecord(nm("y"), 8), aRecord(nm("y"), 7), aRecord(nm("z"), 8))
	}
	for _, front := range []string{"", "IN", "in", "CLASS1", "CLASS00001", "(\nIN )"} {
		checkMaster(t, "$TTL 7\nx "+front+" A 1.2.3.4", root, aRecord(nm("x"), 7))
		checkMaster(t, "x 7 A 1.2.3.4\ny "+front+" A 1.2.3.4", root, aRecord(nm("x"), 7), aRecord(nm("y"), 7))
		checkMasterFault(t, "x "+front+" A 1.2.3.4", root, impl.ErrTTL, 1)
	}
}

// What stands first is the owner, whatever else it might be, unless the line is Blank.
func TestReadMasterOwners(t *testing.T) {
	for text, owner := range map[string]string{
		"x": nm("x", "o"), "X": nm("X", "o"), "@": nm("o"), ".": root, "x.": nm("x"), "5": nm("5", "o"), "IN": nm("IN", "o"), "A": nm("A", "o"), "1h": nm("1h", "o"),
		"\\$TTL": nm("$TTL", "o"), "\\036TTL": nm("$TTL", "o"), "x$": nm("x$", "o"), "\\@": nm("@", "o"), "\\000.": nm("\x00"), "a\\ b": nm("a b", "o"),
		"*": nm("*", "o"), "(x)": nm("x", "o"), "(\n x)": nm("x", "o"), "CLASS1": nm("CLASS1", "o"),
	} {
		checkMaster(t, text+" 7 A 1.2.3.4\n", nm("o"), aRecord(owner, 7))
		checkMaster(t, text+" 7 A 1.2.3.4\n A 1.2.3.4\n\n;\n\t8 A 1.2.3.4", nm("o"), aRecord(owner, 7), aRecord(owner, 7), aRecord(owner, 8))
	}
	// an owner is left out by any blank, and kept over directives and other origins
	for _, blank := range []string{" ", "\t", "\r", " (\n"} {
		end := strings.Repeat(")", strings.Count(blank, "("))
		checkMaster(t, "x 7 A 1.2.3.4\n$ORIGIN p.\n"+blank+"IN A 1.2.3.4"+end+"\ny A 1.2.3.4\n"+blank+"A 1.2.3.4"+end, nm("o"),
			aRecord(nm("x", "o"), 7), aRecord(nm("x", "o"), 7), aRecord(nm("y", "p"), 7), aRecord(nm("y", "p"), 7))
		checkMasterFault(t, "$TTL 7\n"+blank+"A 1.2.3.4"+end, nm("o"), impl.ErrOwner, 2)
	}
}

// The default time is the one of now; without one the last that a record gave.
func TestReadMasterTimes(t *testing.T) {
	a := func(ttls ...int64) []impl.RR {
		var out []impl.RR
		for _, ttl := range ttls {
			out = append(out, aRecord(nm("x"), ttl))
		}
		return out
	}
	line := "x A 1.2.3.4\n"
	given := func(ttl string) string { return "x " + ttl + " A 1.2.3.4\n" }
	checkMaster(t, "$TTL 5\n"+line+"$TTL 6\n"+line, root, a(5, 6)...)
	checkMaster(t, given("5")+line+given("6")+line+line, root, a(5, 5, 6, 6, 6)...)
	checkMaster(t, given("5")+line+"$TTL 7\n"+line+given("6")+line, root, a(5, 5, 7, 6, 7)...)
	checkMaster(t, "$TTL 0\n"+given("6")+line, root, a(6, 0)...)
	checkMaster(t, given("0")+line, root, a(0, 0)...)
	checkMaster(t, "$TTL 1h30m\n"+line+given("1W")+line, root, a(5400, 604800, 5400)...)
	checkMaster(t, given("2147483647")+"$TTL 2147483647\n"+line, root, a(2147483647, 2147483647)...)
	checkMaster(t, given("0000000001")+given(strings.Repeat("1s", 30)), root, a(1, 30)...)
	checkMasterFault(t, line, root, impl.ErrTTL, 1)
	checkMasterFault(t, "\n$ORIGIN a.\n"+line, root, impl.ErrTTL, 3)
	checkMasterFault(t, "$TTL 2147483648\n", root, impl.ErrTTL, 1)
	// what begins with a digit and is no time is a type that is none
	for _, word := range []string{"2147483648", "4294967296", "00000000001", "1x", "1h3", "5A", "0x5", "5.", "5\\ ", "0" + strings.Repeat("1s", 30)} {
		checkMasterFault(t, given(word), root, impl.ErrType, 1)
		checkMasterFault(t, given("5 "+word), root, impl.ErrType, 1)
		checkMasterFault(t, "$TTL "+word, root, impl.ErrTTL, 1)
	}
	// and what is a time only behind an escape, or with a sign, is none
	for _, word := range []string{"\\053", "+5", "-5", "h", "s5"} {
		checkMasterFault(t, given(word), root, impl.ErrType, 1)
	}
}

func TestReadMasterClasses(t *testing.T) {
	for _, class := range []string{"CS", "CH", "HS", "cs", "cH", "Hs", "CLASS0", "CLASS00000", "CLASS2", "class3", "CLASS10", "CLASS11", "CLASS01000", "CLASS255", "CLASS65535", "Class65537", "CLASS99999"} {
		checkMasterFault(t, "x "+class+" 5 A 1.2.3.4", root, impl.ErrClass, 1)
		checkMasterFault(t, "\nx 5 "+class+" A 1.2.3.4", root, impl.ErrClass, 2)
		for _, second := range []string{"IN", "CH", "CLASS1", class} {
			checkMasterFault(t, "x 5 "+class+" "+second+" A 1.2.3.4", root, impl.ErrWord, 1)
			checkMasterFault(t, "x "+second+" 5 "+class+" A 1.2.3.4", root, impl.ErrWord, 1)
		}
	}
	// what is no class is a type that is none
	for _, word := range []string{"CLASS", "class", "CLASS000001", "CLASS100000", "CLASS1x", "CLASSx", "CLASS-1", "CLASS 1", "CLAS1", "I", "INN", "NONE", "\\073N", "C\\072", "CLA\xc5\xbfS1", "C\xc5\xbf", "\xc4\xb0N", "XCLASS1", "CLASS1."} {
		checkMasterFault(t, "x 5 "+word+" A 1.2.3.4", root, impl.ErrType, 1)
		checkMasterFault(t, "x 5 IN "+word+" A 1.2.3.4", root, impl.ErrType, 1)
	}
}

func TestReadMasterDirectives(t *testing.T) {
	for _, word := range []string{"$ORIGIN", "$origin", "$Origin", "$oRIGIN", "($ORIGIN)", "(\n$origin)"} {
		checkMaster(t, word+" a.b.\nx 7 A 1.2.3.4", nm("o"), aRecord(nm("x", "a", "b"), 7))
		checkMaster(t, word+" a\n"+word+" b ;c\n@ 7 A 1.2.3.4", nm("o"), aRecord(nm("b", "a", "o"), 7))
		checkMaster(t, word+" .\nx 7 A 1.2.3.4", nm("o"), aRecord(nm("x"), 7))
		checkMaster(t, word+" @\nx 7 NS y", nm("o"), impl.RR{Owner: nm("x", "o"), Type: impl.TypeNS, Class: 1, TTL: 7, Data: nm("y", "o")})
		checkMaster(t, word+"\tp.\nx 7 NS y\n"+word+" q\n NS y\n", "",
			impl.RR{Owner: nm("x", "p"), Type: impl.TypeNS, Class: 1, TTL: 7, Data: nm("y", "p")},
			impl.RR{Owner: nm("x", "p"), Type: impl.TypeNS, Class: 1, TTL: 7, Data: nm("y", "q", "p")})
		for _, c := range []textFault{
			{" a", impl.ErrRelative, 1}, {" @", impl.ErrRelative, 1}, {" a..b.", impl.ErrLabel, 1}, {" \\256.", impl.ErrEscape, 1},
			{" " + strings.Repeat("a.", 128), impl.ErrLong, 1}, {"", impl.ErrWord, 1}, {" a. b.", impl.ErrWord, 1}, {" a.\"\"", impl.ErrWord, 1},
			{" \"a.\"", impl.ErrWord, 1}, {"\"\"", impl.ErrWord, 1}, {"\"a.\" b..c", impl.ErrWord, 1}, {" a..b b", impl.ErrWord, 1},
		} {
			checkMasterFault(t, word+c.text, "", c.code, c.at)
			checkMasterFault(t, "\n;\n"+word+c.text+"\n", "", c.code, 3)
		}
		checkMasterFault(t, word+" a", nameOf(255), impl.ErrLong, 1)
	}
	for _, word := range []string{"$TTL", "$ttl", "$Ttl", "$tTL", "($TTL)"} {
		checkMaster(t, word+" 7\nx A 1.2.3.4", root, aRecord(nm("x"), 7))
		checkMaster(t, word+" 2m ;c\nx A 1.2.3.4", root, aRecord(nm("x"), 120))
		for _, c := range []textFault{
			{" x", impl.ErrTTL, 1}, {" -1", impl.ErrTTL, 1}, {" 1h1", impl.ErrTTL, 1}, {" 99999w", impl.ErrTTL, 1}, {"", impl.ErrWord, 1},
			{" 7 8", impl.ErrWord, 1}, {" x y", impl.ErrWord, 1}, {" \"7\"", impl.ErrWord, 1}, {"\"7\"", impl.ErrWord, 1}, {" \"x\"", impl.ErrWord, 1}, {" 7\"\"", impl.ErrWord, 1},
		} {
			checkMasterFault(t, word+c.text, root, c.code, c.at)
			checkMasterFault(t, "\n;\n"+word+c.text+"\n", root, c.code, 3)
		}
	}
}

// What begins with $ and is neither directive; and what is none since it is quoted, escaped or behind a blank.
func TestReadMasterNoDirectives(t *testing.T) {
	for _, word := range []string{"$", "$T", "$TTLS", "$TTL\\ ", "$ORIGI", "$ORIGINS", "$INCLUDE", "$$TTL", "$\\084TL", "$TTL.", "$OR\xc4\xb0GIN"} {
		for _, rest := range []string{"", " 7", " a.", " \"7\"", " 7 8", " 7 A 1.2.3.4"} {
			checkMasterFault(t, "\n"+word+rest, root, impl.ErrDirective, 2)
		}
	}
	for _, word := range []string{"\"$TTL\"", "\"$ORIGIN\"", "\"$\"", "\"\""} {
		checkMasterFault(t, word+" 7", root, impl.ErrWord, 1)
		checkMasterFault(t, word+" 7 A 1.2.3.4", root, impl.ErrWord, 1)
	}
	for _, word := range []string{"$TTL", "$ORIGIN", "$", "$X"} {
		checkMasterFault(t, "x 7 A 1.2.3.4\n "+word+" 7", root, impl.ErrType, 2)
		checkMasterFault(t, " "+word+" 7", root, impl.ErrOwner, 1)
		checkMasterFault(t, "\\"+word+" 7", root, impl.ErrWord, 1)
	}
	checkMaster(t, "x 7 TXT $TTL 5\n 8 TXT \"$ORIGIN\"", root,
		impl.RR{Owner: nm("x"), Type: impl.TypeTXT, Class: 1, TTL: 7, Data: st("$TTL") + st("5")},
		impl.RR{Owner: nm("x"), Type: impl.TypeTXT, Class: 1, TTL: 8, Data: st("$ORIGIN")})
}

// P8: each fault that a line may have, and its number.
func TestP8ReadMasterFaults(t *testing.T) {
	long := strings.Repeat("a.", 128)
	for _, c := range []textFault{
		{"\"x\" 5 A 1.2.3.4", impl.ErrWord, 1},
		{"\n\"x\" 5 A 1.2.3.4", impl.ErrWord, 2},
		{"a..b 5 A 1.2.3.4", impl.ErrLabel, 1},
		{"\\256 5 A 1.2.3.4", impl.ErrEscape, 1},
		{long + " 5 A 1.2.3.4", impl.ErrLong, 1},
		{strings.Repeat("a", 1101) + " 5 A 1.2.3.4", impl.ErrLong, 1},
		{" 5 A 1.2.3.4", impl.ErrOwner, 1},
		{"\t\"A\"", impl.ErrOwner, 1},
		{"x", impl.ErrWord, 1},
		{"x 5", impl.ErrWord, 1},
		{"x IN", impl.ErrWord, 1},
		{"x IN 5", impl.ErrWord, 1},
		{"x 5 6 A 1.2.3.4", impl.ErrWord, 1},
		{"x 5 5 A 1.2.3.4", impl.ErrWord, 1},
		{"x 5 IN 6 A 1.2.3.4", impl.ErrWord, 1},
		{"x 5 IN IN A 1.2.3.4", impl.ErrWord, 1},
		{"x IN 5 CLASS1 A 1.2.3.4", impl.ErrWord, 1},
		{"x 5 \"A\" 1.2.3.4", impl.ErrWord, 1},
		{"x 5 \"IN\" A 1.2.3.4", impl.ErrWord, 1},
		{"x \"5\" A 1.2.3.4", impl.ErrWord, 1},
		{"x \"5\"", impl.ErrWord, 1},
		{"x 5 IN \"\"", impl.ErrWord, 1},
		{"x 5 FOO 1.2.3.4", impl.ErrType, 1},
		{"x 5 TYPE 1.2.3.4", impl.ErrType, 1},
		{"x 5 TYPE65536 \\# 0", impl.ErrType, 1},
		{"x 5 TYPE000001 1.2.3.4", impl.ErrType, 1},
		{"x 5 \\065 1.2.3.4", impl.ErrType, 1},
		{"x 5 A", impl.ErrWord, 1},
		{"x 5 A 1.2.3.4 1.2.3.4", impl.ErrWord, 1},
		{"x 5 A \"1.2.3.4\"", impl.ErrWord, 1},
		{"x 5 A 1.2.3", impl.ErrData, 1},
		{"x 5 NS a..b", impl.ErrLabel, 1},
		{"x 5 TXT \\256", impl.ErrEscape, 1},
		{"x 5 TXT \"\\25\"", impl.ErrEscape, 1},
		{"x 5 TXT " + strings.Repeat("y", 256), impl.ErrData, 1},
		{"x 5 NSEC . FOO", impl.ErrType, 1},
		{"x 5 SOA . . 1 2 3 4 y", impl.ErrTTL, 1},
		{"x 5 TYPE731 abc", impl.ErrWord, 1},
		{"x 5 A \\# 3 010203", impl.ErrData, 1},
		{"x 5 A \\# 4 010203", impl.ErrWord, 1},
		{"x 5 A \"\\#\" 4 01020304", impl.ErrWord, 1},
		{"x 5 A 1.2.3.4\n y 5 A 1.2.3.4", impl.ErrType, 2},
	} {
		checkMasterFault(t, c.text, inEx(), c.code, c.at)
		checkMasterFault(t, c.text+" ; c\n", inEx(), c.code, c.at)
		checkMasterFault(t, ";\n;\n"+c.text+"\n", inEx(), c.code, c.at+2)
	}
	for _, rtype := range []string{"OPT", "TSIG", "IXFR", "AXFR", "ANY", "any", "TYPE0", "type00", "TYPE41", "TYPE249", "TYPE250", "TYPE251", "TYPE252", "TYPE253", "TYPE254", "TYPE255", "TYPE00255"} {
		for _, data := range []string{"", " \\# 0", " 1.2.3.4", " \"x\""} {
			checkMasterFault(t, "\nx 5 "+rtype+data, root, impl.ErrType, 2)
		}
	}
	for _, text := range []string{"x 5 A 1.2.3.4", "@ 5 A 1.2.3.4", ". 5 NS x", ". 5 NS @", "\n$ORIGIN x"} {
		checkMasterFault(t, text, "", impl.ErrRelative, 1+int64(strings.Count(text, "\n")))
	}
}

// P8: a record's fault is told at the number of its line, wherever in it the ill word stands.
func TestP8ReadMasterLines(t *testing.T) {
	for _, c := range []textFault{
		{"x 5 A 1.2.3.4\n\n\ny 5 A (\n\n1.2.3 )\n", impl.ErrData, 4},
		{"; c\n(\n\n x 5 A\n 1.2.3 )", impl.ErrData, 2},
		{"x 5 A (\n\n1.2.3.4)\ny 5 FOO", impl.ErrType, 4},
		{"x 5 A (\n\n1.2.3.4)\n\n$FOO", impl.ErrDirective, 5},
		{"\n$ORIGIN (\na..b\n)", impl.ErrLabel, 2},
		{"\n\n$TTL (\n\n\nx)", impl.ErrTTL, 3},
		{"x 5 A 1.2.3.4\n$TTL 5\n$ORIGIN a.\n\ny A 1.2.3.4\n z\n", impl.ErrType, 6},
		{"\r\n\r\nx 5\r\n", impl.ErrWord, 3},
	} {
		checkMasterFault(t, c.text, root, c.code, c.at)
	}
}

// P8: of two ill lines the first is told; but what Lex tells comes ahead of all lines, and an ill origin of all.
func TestP8ReadMasterFirst(t *testing.T) {
	ill := []textFault{
		{"x 5 A 1.2.3", impl.ErrData, 0}, {"x 5 FOO", impl.ErrType, 0}, {"$FOO", impl.ErrDirective, 0}, {"a..b 5", impl.ErrLabel, 0},
		{"\"x\"", impl.ErrWord, 0}, {"x A 1.2.3.4", impl.ErrTTL, 0}, {" 5 A 1.2.3.4", impl.ErrOwner, 0}, {"x 5 CH A 1.2.3.4", impl.ErrClass, 0},
	}
	cut := []textFault{
		{"x)", impl.ErrParen, 2}, {"(", impl.ErrParen, 2}, {"\"", impl.ErrQuote, 2}, {"x \\", impl.ErrEscape, 2}, {strings.Repeat(" x", 301), impl.ErrWord, 2},
	}
	for _, first := range ill {
		for _, second := range ill {
			checkMasterFault(t, "\n"+first.text+"\n"+second.text, root, first.code, 2)
		}
		for _, second := range cut {
			checkMasterFault(t, first.text+"\n"+second.text, root, second.code, second.at)
		}
		checkMasterFault(t, first.text+strings.Repeat("\n", 40000), root, impl.ErrSize, 0)
		for _, origin := range noNames()[1:] {
			checkMasterFault(t, first.text, origin, impl.ErrForm, 0)
		}
	}
	for _, text := range []string{"", "\n", ";", "x. 5 A 1.2.3.4", "$ORIGIN a.", "(", "\"", strings.Repeat(" x", 301), strings.Repeat(" ", 40001)} {
		for _, origin := range noNames()[1:] {
			checkMasterFault(t, text, origin, impl.ErrForm, 0)
		}
	}
}

// slotFault is what may stand in a place of a record's line, and the fault that this is.
type slotFault struct {
	text string
	code int64
}

// P8: of several faults of one record the one that chapter 7 tells first is answered.
func TestP8ReadMasterOrder(t *testing.T) {
	owners := []slotFault{{"x", impl.OK}, {"\"x\"", impl.ErrWord}, {"a..b", impl.ErrLabel}, {"\\256", impl.ErrEscape}, {"", impl.ErrOwner}}
	fronts := []slotFault{{"", impl.OK}, {"5", impl.OK}, {"5 6", impl.ErrWord}, {"5 5 CH", impl.ErrWord}}
	classes := []slotFault{{"", impl.OK}, {"IN", impl.OK}, {"IN CLASS1", impl.ErrWord}, {"CH IN", impl.ErrWord}, {"CH", impl.ErrClass}, {"CLASS2", impl.ErrClass}}
	types := []slotFault{{"A", impl.OK}, {"\"A\"", impl.ErrWord}, {"FOO", impl.ErrType}, {"ANY", impl.ErrType}, {"TYPE0", impl.ErrType}}
	datas := []slotFault{{"1.2.3.4", impl.OK}, {"1.2.3", impl.ErrData}, {"\\# 4 0", impl.ErrWord}}
	for _, owner := range owners {
		for _, front := range fronts {
			for _, class := range classes {
				for _, rtype := range types {
					for _, data := range datas {
						late := []int64{class.code, impl.OK, data.code}
						if front.text == "" {
							late[1] = impl.ErrTTL
						}
						early := []int64{owner.code, front.code, rtype.code}
						if class.code == impl.ErrWord {
							early = []int64{owner.code, front.code, impl.ErrWord}
						}
						line := owner.text + " " + front.text + " " + class.text + " " + rtype.text + " " + data.text
						checkOrder(t, line, append(early, late...))
						line = owner.text + " " + class.text + " " + front.text + " " + rtype.text + " " + data.text
						checkOrder(t, line, append(early, late...))
					}
				}
			}
		}
	}
}

// checkOrder holds the code of a line, as the third one, against the first of these that is not OK.
func checkOrder(t *testing.T, line string, codes []int64) {
	t.Helper()
	for _, code := range codes {
		if code != impl.OK {
			checkMasterFault(t, "\n\n"+line+"\n", root, code, 3)
			return
		}
	}
	checkMaster(t, "\n\n"+line+"\n", root, aRecord(nm("x"), 5))
}

// As many records as MaxRecords; one more is told at its line, behind all that is else wrong with it.
func TestReadMasterMaxRecords(t *testing.T) {
	var want []impl.RR
	for range 500 {
		want = append(want, aRecord(nm("x"), 5))
	}
	text := "x 5 A 1.2.3.4\n" + strings.Repeat(" A 1.2.3.4\n", 499)
	checkMaster(t, text, root, want...)
	checkMaster(t, text+"; no more\n\n$TTL 5\n$ORIGIN a.\n", root, want...)
	for _, c := range []textFault{
		{"x 5 A 1.2.3.4", impl.ErrCount, 501},
		{" A 1.2.3.4", impl.ErrCount, 501},
		{" A 1.2.3.4\n A 1.2.3.4\n", impl.ErrCount, 501},
		{"\n\n$TTL 5\ny A (\n1.2.3.4)\n A 1.2.3\n", impl.ErrCount, 504},
		{" A 1.2.3", impl.ErrData, 501},
		{" A", impl.ErrWord, 501},
		{" CH A 1.2.3.4", impl.ErrClass, 501},
		{" ANY", impl.ErrType, 501},
		{" 5 5 A 1.2.3.4", impl.ErrWord, 501},
		{"a..b A 1.2.3.4", impl.ErrLabel, 501},
		{"$FOO", impl.ErrDirective, 501},
		{" A 1.2.3.4\n$FOO", impl.ErrCount, 501},
		{" A 1.2.3.4\n)", impl.ErrParen, 502},
	} {
		checkMasterFault(t, text+c.text, root, c.code, c.at)
	}
}

// A line may have as many words as MaxWords; its data is as many as are left.
func TestReadMasterMaxWords(t *testing.T) {
	line := "x 5 IN TXT" + strings.Repeat(" y", 296)
	checkMaster(t, line, root, impl.RR{Owner: nm("x"), Type: impl.TypeTXT, Class: 1, TTL: 5, Data: strings.Repeat("\x01y", 296)})
	checkMasterFault(t, "\n"+line+" y", root, impl.ErrWord, 2)
	checkMasterFault(t, "\n(\n"+line+"\"\")", root, impl.ErrWord, 2)
	short := "x 5 A 1.2.3.4\n TXT" + strings.Repeat("\"\"", 299)
	checkMaster(t, short, root, aRecord(nm("x"), 5), impl.RR{Owner: nm("x"), Type: impl.TypeTXT, Class: 1, TTL: 5, Data: strings.Repeat("\x00", 299)})
	checkMasterFault(t, short+"\"\"", root, impl.ErrWord, 2)
}

// A text may have as many bytes as MaxFile.
func TestReadMasterMaxFile(t *testing.T) {
	line := "x 5 A 1.2.3.4"
	pad := strings.Repeat(";", 40000-len(line))
	checkMaster(t, line+pad, root, aRecord(nm("x"), 5))
	checkMasterFault(t, line+pad+";", root, impl.ErrSize, 0)
	checkMasterFault(t, line+pad+"\n", root, impl.ErrSize, 0)
	checkMasterFault(t, strings.Repeat("\n", 1000000), "", impl.ErrSize, 0)
}
