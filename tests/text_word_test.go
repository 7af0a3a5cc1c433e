package tests

import (
	"strconv"
	"strings"
	"testing"

	"loop.example/s01858/impl"
)

func TestReadTTL(t *testing.T) {
	for s, want := range map[string]int64{
		"0":                       0,
		"1":                       1,
		"3600":                    3600,
		"0000000000":              0,
		"0000000001":              1,
		"2147483647":              2147483647,
		"0s":                      0,
		"1s":                      1,
		"1S":                      1,
		"1m":                      60,
		"1M":                      60,
		"1h":                      3600,
		"1H":                      3600,
		"1d":                      86400,
		"1D":                      86400,
		"1w":                      604800,
		"1W":                      604800,
		"1h30m":                   5400,
		"30m1h":                   5400,
		"2W":                      1209600,
		"1d1d":                    172800,
		"1w2d3h4m5s":              788645,
		"1W2d3H4m5S":              788645,
		"0000000001h":             3600,
		"2147483647s":             2147483647,
		"2147483646s1s":           2147483647,
		"35791394m7s":             2147483647,
		"3550w5d3h14m7s":          2147483647,
		"0s2147483647s":           2147483647,
		strings.Repeat("1s", 30):  30,
		strings.Repeat("01d", 20): 20 * 86400,
	} {
		if got, code := impl.ReadTTL(s); got != want || code != impl.OK {
			t.Errorf("ReadTTL(%q) = %d, %d", s, got, code)
		}
	}
	for _, s := range noTTL() {
		if got, code := impl.ReadTTL(s); got != 0 || code != impl.ErrTTL {
			t.Errorf("ReadTTL(%.300q) = %d, %d", s, got, code)
		}
	}
}

// noTTL are texts that are no times.
func noTTL() []string {
	return []string{
		"", "s", "h", "m1", "1h3", "1h30", "1hm", "1hh", "1h m", "1 h", " 1", "1 ", "1\n", "-1", "+1", "1.5", "1.5h", "0x10", "1e3", "1y", "1x", "1[", "1{",
		"1h-1m", "1\\104", "1\xf3", "\xb2", "1/", "1:", "1:00", "a", "ten",
		"2147483648", "4294967295", "4294967296", "9999999999", "00000000000", "00000000001", "02147483647", "18446744073709551617",
		"2147483648s", "2147483647s1s", "35791394m8s", "35791395m", "596524h", "24856d", "3551w", "3550w5d3h14m8s", "9999999999w", "9999999999w9999999999w",
		"00000000001s", "1s00000000001s", "9999999999999999999999w", strings.Repeat("9999999999w", 5), strings.Repeat("9", 60), strings.Repeat("9", 61),
		"0" + strings.Repeat("1s", 30), strings.Repeat("1s", 31), strings.Repeat("0", 61), strings.Repeat("0s", 5000000),
	}
}

// Every byte behind a number.
func TestReadTTLUnits(t *testing.T) {
	units := map[byte]int64{'s': 1, 'm': 60, 'h': 3600, 'd': 86400, 'w': 604800, 'S': 1, 'M': 60, 'H': 3600, 'D': 86400, 'W': 604800}
	for n := range 256 {
		c := byte(n)
		want, wantCode := int64(0), int64(impl.ErrTTL)
		if unit, ok := units[c]; ok {
			want, wantCode = 3*unit, impl.OK
		} else if c >= '0' && c <= '9' {
			want, wantCode = 30+int64(c-'0'), impl.OK
		}
		if got, code := impl.ReadTTL("3" + string([]byte{c})); got != want || code != wantCode {
			t.Errorf("ReadTTL(3 and the byte %d) = %d, %d", n, got, code)
		}
	}
}

// mnemonicTypes are the mnemonics of chapter 4 and their types.
func mnemonicTypes() map[string]int64 {
	return map[string]int64{
		"A": 1, "NS": 2, "CNAME": 5, "SOA": 6, "PTR": 12, "HINFO": 13, "MX": 15, "TXT": 16, "AAAA": 28, "SRV": 33, "NAPTR": 35,
		"DNAME": 39, "OPT": 41, "NSEC": 47, "TSIG": 250, "IXFR": 251, "AXFR": 252, "ANY": 255, "CAA": 257,
	}
}

func TestReadType(t *testing.T) {
	check := func(s string, want, wantCode int64) {
		t.Helper()
		if got, code := impl.ReadType(s); got != want || code != wantCode {
			t.Errorf("ReadType(%.300q) = %d, %d", s, got, code)
		}
	}
	for s, rtype := range mnemonicTypes() {
		check(s, rtype, impl.OK)
		check(strings.ToLower(s), rtype, impl.OK)
		check(s[:1]+strings.ToLower(s[1:]), rtype, impl.OK)
		check(strings.ToLower(s[:1])+s[1:], rtype, impl.OK)
		check("TYPE"+strconv.FormatInt(rtype, 10), rtype, impl.OK)
		for _, other := range []string{s + " ", " " + s, s + "1", "1" + s, s + ".", s + "\x00", "TYPE" + s, "\\" + s} {
			check(other, 0, impl.ErrType)
		}
	}
	for s, rtype := range map[string]int64{
		"TYPE0": 0, "TYPE1": 1, "type28": 28, "Type257": 257, "tYpE9": 9, "TYPE00000": 0, "TYPE00001": 1, "TYPE99": 99, "TYPE65534": 65534, "TYPE65535": 65535, "type65535": 65535,
	} {
		check(s, rtype, impl.OK)
	}
	for _, s := range noTypeTexts() {
		check(s, 0, impl.ErrType)
	}
}

// noTypeTexts are texts that are no types.
func noTypeTexts() []string {
	return []string{
		"", "FOO", "AA", "AAA", "AAAAA", "N", "S", "CNAM", "CNAMES", "TYPE", "type", "TYP", "TYP1", "TYPE65536", "TYPE65537", "TYPE99999", "TYPE000000", "TYPE000001", "TYPE065535",
		"TYPE100000", "TYPE4294967297", "TYPE18446744073709551617", "TYPE-1", "TYPE+1", "TYPE 1", "TYPE1 ", "TYPE1x", "TYPEx", "TYPE0x1", "TYPE1.0", "TYPE/", "TYPE:", "1", "65535", "ATYPE1", "TTYPE1",
		"MD", "MF", "NULL", "RRSIG", "DS", "ANY ", "*", "@", "t\xd9pe1", "\xc1", "\x81", "a\x00", strings.Repeat("A", 1000000), "TYPE" + strings.Repeat("0", 1000000),
	}
}

func TestShowType(t *testing.T) {
	names := map[int64]string{}
	for s, rtype := range mnemonicTypes() {
		names[rtype] = s
	}
	for rtype := range int64(65536) {
		want, ok := names[rtype]
		if !ok {
			want = "TYPE" + strconv.FormatInt(rtype, 10)
		}
		if got := impl.ShowType(rtype); got != want {
			t.Errorf("ShowType(%d) = %q, not %q", rtype, got, want)
		}
	}
	for _, rtype := range noTypes() {
		if got := impl.ShowType(rtype); got != "" {
			t.Errorf("ShowType(%d) = %q", rtype, got)
		}
	}
}

func checkReadText(t *testing.T, text, want string, wantCode int64) {
	t.Helper()
	if got, code := impl.ReadText(text); got != want || code != wantCode {
		t.Errorf("ReadText(%.300q) = %.300q, %d, not %.300q, %d", text, got, code, want, wantCode)
	}
}

func TestReadText(t *testing.T) {
	for s, want := range map[string]string{
		"":                            "",
		"a b":                         "a b",
		"a.b..c.":                     "a.b..c.",
		".":                           ".",
		"@":                           "@",
		"\"();$\x00\n\xff":            "\"();$\x00\n\xff",
		"c\\059":                      "c;",
		"\\\"\\\\\\.":                 "\"\\.",
		"\\a\\ \\\xff":                "a \xff",
		"\\000\\009\\099\\100\\255":   "\x00\x09\x63\x64\xff",
		"\\0651":                      "A1",
		"\\\\065":                     "\\065",
		"\\\\\\065":                   "\\A",
		strings.Repeat("x", 1000):     strings.Repeat("x", 1000),
		strings.Repeat("\\120", 2000): strings.Repeat("x", 2000),
	} {
		checkReadText(t, s, want, impl.OK)
	}
	for _, s := range []string{
		"\\", "a\\", "\\\\\\", "\\2", "\\25", "a\\2", "a\\25", "\\2a5", "\\25a", "\\256", "\\260", "\\300", "\\999", "ok\\255\\256", "\\0/0", "\\0:0", "\\00/", "\\00:", "\\1\\00", "\\256 more",
		strings.Repeat("a", 1000000) + "\\",
	} {
		checkReadText(t, s, "", impl.ErrEscape)
	}
}

// Every text of up to six bytes out of those that matter.
func TestReadTextSmall(t *testing.T) {
	list := []string{""}
	for range 6 {
		var next []string
		for _, s := range list {
			for _, c := range "a.\\256\"" {
				next = append(next, s+string(c))
			}
		}
		list = next
		for _, text := range list {
			want, wantCode := "", int64(impl.OK)
			pieces, whole := piecesOf(text)
			for _, p := range pieces {
				want += string([]byte{p.c})
			}
			if !whole {
				want, wantCode = "", impl.ErrEscape
			}
			checkReadText(t, text, want, wantCode)
		}
	}
}

func TestReadTextBytes(t *testing.T) {
	for n := range 1000 {
		text := "\\" + strconv.Itoa(1000 + n)[1:]
		if n < 256 {
			checkReadText(t, text, string([]byte{byte(n)}), impl.OK)
		} else {
			checkReadText(t, text, "", impl.ErrEscape)
		}
	}
	for n := range 256 {
		c := string([]byte{byte(n)})
		if c != "\\" {
			checkReadText(t, c, c, impl.OK)
		}
		if n < '0' || n > '9' {
			checkReadText(t, "\\"+c, c, impl.OK)
		}
	}
}

func TestShowText(t *testing.T) {
	for s, want := range map[string]string{
		"":                        "\"\"",
		"wild":                    "\"wild\"",
		"a b":                     "\"a b\"",
		"a\"b\\c\n ":              "\"a\\\"b\\\\c\\010 \"",
		".;()@$":                  "\".;()@$\"",
		"\x00\x09\x1f ~\x7f\x80":  "\"\\000\\009\\031 ~\\127\\128\"",
		"\x63\x64\xc7\xc8\xff":    "\"cd\\199\\200\\255\"",
		strings.Repeat("\"", 300): "\"" + strings.Repeat("\\\"", 300) + "\"",
	} {
		if got := impl.ShowText(s); got != want {
			t.Errorf("ShowText(%q) = %q, not %q", s, got, want)
		}
	}
	for n := range 256 {
		c := string([]byte{byte(n)})
		want := c
		if c == "\"" || c == "\\" {
			want = "\\" + c
		} else if n < 32 || n > 126 {
			want = "\\" + strconv.Itoa(1000 + n)[1:]
		}
		if got := impl.ShowText(c + c); got != "\""+want+want+"\"" {
			t.Errorf("ShowText of the byte %d = %q", n, got)
		}
	}
}
