package tests

import (
	"strconv"
	"strings"
	"testing"

	"loop.example/s01858/impl"
)

func itoa(n int) string { return strconv.Itoa(n) }

// showCase are data of each type and the text that they are told as.
type showCase struct {
	rtype      int64
	data, want string
}

func showCases() []showCase {
	return []showCase{
		{impl.TypeA, "\xc0\x00\x02\x01", "192.0.2.1"},
		{impl.TypeAAAA, v6(0x2001, 0xdb8, 0, 0, 0, 0, 0, 1), "2001:db8::1"},
		{impl.TypeNS, nm("ns1", "Example"), "ns1.Example."},
		{impl.TypeCNAME, nm("a.b", "\x00\xff"), "a\\.b.\\000\\255."},
		{impl.TypePTR, root, "."},
		{impl.TypeDNAME, nm("@", "$"), "\\@.\\$."},
		{impl.TypeMX, "\x01\x00" + nm("m"), "256 m."},
		{impl.TypeMX, "\x00\x00\x00", "0 ."},
		{impl.TypeMX, "\xff\xff\x00", "65535 ."},
		{impl.TypeSOA, nm("ns") + nm("admin", "x") + "\x00\x00\x00\x07\x00\x00\x1c\x20\x00\x00\x03\x84\x80\x00\x00\x00\xff\xff\xff\xff", "ns. admin.x. 7 7200 900 2147483648 4294967295"},
		{impl.TypeSOA, root + root + strings.Repeat("\x00", 20), ". . 0 0 0 0 0"},
		{impl.TypeSRV, "\x00\x01\x00\x02\xff\xff" + nm("s"), "1 2 65535 s."},
		{impl.TypeTXT, "\x01a\x00", "\"a\" \"\""},
		{impl.TypeTXT, "\x00", "\"\""},
		{impl.TypeTXT, st("a b") + st("\"\\\n"), "\"a b\" \"\\\"\\\\\\010\""},
		{impl.TypeTXT, st(strings.Repeat("x", 255)), "\"" + strings.Repeat("x", 255) + "\""},
		{impl.TypeHINFO, st("PC") + st("Some System"), "\"PC\" \"Some System\""},
		{impl.TypeHINFO, "\x00\x00", "\"\" \"\""},
		{impl.TypeNAPTR, "\x00\x01\x00\x02\x01u\x00\x01r\x00", "1 2 \"u\" \"\" \"r\" ."},
		{impl.TypeNAPTR, "\x01\x00\xff\xff\x00\x01 \x00" + nm("N"), "256 65535 \"\" \" \" \"\" N."},
		{impl.TypeCAA, "\x00\x05issueca.example", "0 issue \"ca.example\""},
		{impl.TypeCAA, "\xff\x0fabcXYZ012345678", "255 abcXYZ012345678 \"\""},
		{impl.TypeCAA, "\x80\x01a" + strings.Repeat("y", 300), "128 a \"" + strings.Repeat("y", 300) + "\""},
		{impl.TypeCAA, "\x80\x01a\x01b\x00", "128 a \"\\001b\\000\""},
		{impl.TypeNSEC, nm("host"), "host."},
		{impl.TypeNSEC, nm("host") + "\x00\x06\x40\x01\x00\x00\x00\x03", "host. A MX TYPE46 NSEC"},
		{impl.TypeNSEC, root + "\x00\x01\x80\x01\x01\x40\xff\x20" + strings.Repeat("\x00", 31) + "\x01", ". TYPE0 CAA TYPE65535"},
		{99, "", "\\# 0"},
		{99, "\x00", "\\# 1 00"},
		{99, "\x0a\xff", "\\# 2 0aff"},
		{0, "\x01\x23\x45\x67\x89\xab\xcd\xef", "\\# 8 0123456789abcdef"},
		{impl.TypeOPT, "\x00\x01", "\\# 2 0001"},
		{impl.TypeTSIG, nm("a"), "\\# 3 016100"},
		{impl.TypeANY, "", "\\# 0"},
		{65535, strings.Repeat("\xfe", 65535), "\\# 65535 " + strings.Repeat("fe", 65535)},
	}
}

func TestShowData(t *testing.T) {
	for _, c := range showCases() {
		if got, code := impl.ShowData(c.rtype, c.data); got != c.want || code != impl.OK {
			t.Errorf("ShowData(%d, %.300q) = %.300q, %d, not %.300q", c.rtype, c.data, got, code, c.want)
		}
	}
}

// The code is that of CheckData.
func TestShowDataWrong(t *testing.T) {
	for _, rtype := range noTypes() {
		for _, data := range []string{"", "\x01\x02\x03\x04", strings.Repeat("a", 65536)} {
			if got, code := impl.ShowData(rtype, data); got != "" || code != impl.ErrType {
				t.Errorf("ShowData(%d, %.300q) = %.300q, %d", rtype, data, got, code)
			}
		}
	}
	wrong := append(noNames(), noSOA()...)
	wrong = append(wrong, "", "\x00", "\x00\x05", "\x00\x05issu", "\x00\x00", "\x00\x01-", "\x00\x10abcdefghijklmnop", strings.Repeat("\x00", 65536))
	for _, rtype := range append(formTypes(), freeTypes()...) {
		for _, data := range wrong {
			want := impl.CheckData(rtype, data)
			got, code := impl.ShowData(rtype, data)
			if code != want || (got == "") != (code != impl.OK) {
				t.Errorf("ShowData(%d, %.300q) = %.300q, %d, CheckData answers %d", rtype, data, got, code, want)
			}
		}
		if got, code := impl.ShowData(rtype, strings.Repeat("\x00", 65536)); got != "" || code != impl.ErrData {
			t.Errorf("ShowData(%d) of 65536 bytes = %.300q, %d", rtype, got, code)
		}
	}
}

// A map of all types is told type by type.
func TestShowDataAllTypes(t *testing.T) {
	words := []string{"."}
	for rtype := range int64(65536) {
		words = append(words, impl.ShowType(rtype))
	}
	if got, code := impl.ShowData(impl.TypeNSEC, root+allTypesMap()); got != strings.Join(words, " ") || code != impl.OK {
		t.Errorf("ShowData of all types = %.300q, %d", got, code)
	}
}
