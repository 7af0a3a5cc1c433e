package tests

import (
	"math/rand"
	"slices"
	"strings"
	"testing"

	"loop.example/s01858/impl"
)

func TestDataNames(t *testing.T) {
	for _, c := range []struct {
		rtype int64
		data  string
		want  []impl.Span
	}{
		{impl.TypeA, "abcd", nil},
		{impl.TypeAAAA, strings.Repeat("\x00", 16), nil},
		{impl.TypeTXT, st("ab"), nil},
		{impl.TypeHINFO, st("ab") + root, nil},
		{impl.TypeCAA, "\x00\x01a" + root, nil},
		{99, nm("a"), nil},
		{impl.TypeTSIG, nm("a"), nil},
		{99, "", nil},
		{impl.TypeNS, root, []impl.Span{{From: 0, To: 1}}},
		{impl.TypeNS, nm("ab", "c"), []impl.Span{{From: 0, To: 6}}},
		{impl.TypeCNAME, nm("ab", "c"), []impl.Span{{From: 0, To: 6}}},
		{impl.TypePTR, nameOf(255), []impl.Span{{From: 0, To: 255}}},
		{impl.TypeDNAME, nm("ab"), []impl.Span{{From: 0, To: 4}}},
		{impl.TypeMX, "\x00\x01" + nm("ab"), []impl.Span{{From: 2, To: 6}}},
		{impl.TypeSRV, "123456" + nm("ab"), []impl.Span{{From: 6, To: 10}}},
		{impl.TypeSOA, nm("a") + nm("bcd") + soaTail, []impl.Span{{From: 0, To: 3}, {From: 3, To: 8}}},
		{impl.TypeSOA, root + root + soaTail, []impl.Span{{From: 0, To: 1}, {From: 1, To: 2}}},
		{impl.TypeNAPTR, "1234" + st("a") + st("bc") + st("") + nm("x"), []impl.Span{{From: 10, To: 13}}},
		{impl.TypeNSEC, nm("ab") + "\x00\x01\x40", []impl.Span{{From: 0, To: 4}}},
		{impl.TypeNSEC, nm("ab"), []impl.Span{{From: 0, To: 4}}},
	} {
		if got := impl.DataNames(c.rtype, c.data); !slices.Equal(got, c.want) {
			t.Errorf("DataNames(%d, %.300q) = %v", c.rtype, c.data, got)
		}
	}
}

// foldAgain folds the names at these places, and no byte beside them.
func foldAgain(data string, names []impl.Span) string {
	out := ""
	at := int64(0)
	for _, s := range names {
		name := strings.Map(func(c rune) rune {
			if c >= 'A' && c <= 'Z' {
				return c + 32
			}
			return c
		}, latin(data[s.From:s.To]))
		out += data[at:s.From] + unlatin(name)
		at = s.To
	}
	return out + data[at:]
}

// latin is a text with a rune for each byte, unlatin the other way.
func latin(s string) string {
	var out []rune
	for _, c := range []byte(s) {
		out = append(out, rune(c))
	}
	return string(out)
}

func unlatin(s string) string {
	var out []byte
	for _, c := range s {
		out = append(out, byte(c))
	}
	return string(out)
}

// Where names stand in data that is made at random, and what is folded there.
func TestDataNamesAndFold(t *testing.T) {
	r := rand.New(rand.NewSource(10))
	for _, rtype := range append(formTypes(), freeTypes()...) {
		for range 100 {
			data := someDataOf(r, rtype)
			var want []impl.Span
			if form := formText(rtype); form != "" && !anySplit(form, data, &want) {
				t.Fatalf("the data %q of the type %d is none", data, rtype)
			}
			if got := impl.DataNames(rtype, data); !slices.Equal(got, want) {
				t.Errorf("DataNames(%d, %q) = %v", rtype, data, got)
			}
			if got := impl.FoldData(rtype, data); got != foldAgain(data, want) {
				t.Errorf("FoldData(%d, %q) = %q", rtype, data, got)
			}
		}
	}
}

func TestFoldData(t *testing.T) {
	for _, c := range []struct {
		rtype      int64
		data, want string
	}{
		{impl.TypeA, "ABCD", "ABCD"},
		{impl.TypeAAAA, "0123456789ABCDEF", "0123456789ABCDEF"},
		{impl.TypeNS, nm("Ab", "C"), nm("ab", "c")},
		{impl.TypeCNAME, nm("AZ@[`{\xc9"), nm("az@[`{\xc9")},
		{impl.TypePTR, root, root},
		{impl.TypeDNAME, nm("OLD"), nm("old")},
		{impl.TypeMX, "AB" + nm("AB"), "AB" + nm("ab")},
		{impl.TypeSRV, "ABCDEF" + nm("AB"), "ABCDEF" + nm("ab")},
		{impl.TypeSOA, nm("NS") + nm("AD") + "ABCDEFGHIJKLMNOPQRST", nm("ns") + nm("ad") + "ABCDEFGHIJKLMNOPQRST"},
		{impl.TypeTXT, st("AB") + st("C"), st("AB") + st("C")},
		{impl.TypeTXT, strings.Repeat("A", 66), strings.Repeat("A", 66)},
		{impl.TypeHINFO, st("AB") + st("C"), st("AB") + st("C")},
		{impl.TypeNAPTR, "ABCD" + st("U") + st("E2U") + st("X") + nm("Name"), "ABCD" + st("U") + st("E2U") + st("X") + nm("name")},
		{impl.TypeCAA, "A\x05ISSUECA.Example", "A\x05ISSUECA.Example"},
		{impl.TypeNSEC, nm("NEXT") + "\x41\x01\x42\x43\x02AB", nm("next") + "\x41\x01\x42\x43\x02AB"},
		{99, nm("ABC"), nm("ABC")},
		{99, "", ""},
	} {
		if got := impl.FoldData(c.rtype, c.data); got != c.want {
			t.Errorf("FoldData(%d, %q) = %q", c.rtype, c.data, got)
		}
	}
}

func TestCompareData(t *testing.T) {
	// The data of each list are in their order.
	for rtype, list := range map[int64][]string{
		impl.TypeA:   {"\x00\x00\x00\x01", "\x01\x00\x00\x00", "ABCD", "abcd", "\x80\x00\x00\x00", "\xff\xff\xff\xff"},
		99:           {"", "\x00", "\x00\x00", "A", "AA", "AB", "B", "a", "ab", "\xff"},
		impl.TypeNS:  {root, nm("["), nm("a"), nm("A", "b"), nm("B"), nm("{"), nm("\xc9"), nm("aa"), nm("aa", "a")},
		impl.TypeTXT: {"\x00", "\x00\x00", st("A"), st("B"), st("a"), st("a") + st(""), st("aa")},
		impl.TypeMX:  {"\x00\x01" + nm("Z"), "\x00\x02" + nm("a"), "\x00A" + nm("b"), "\x00a" + nm("A")},
		impl.TypeCAA: {"\x00\x01A", "\x00\x01Ax", "\x00\x01a", "\x00\x02AA", "\x80\x01A"},
		impl.TypeSOA: {root + nm("z") + soaTail, nm("A") + root + soaTail, nm("a") + nm("B") + soaTail, nm("a") + nm("c") + "A" + soaTail[1:], nm("A") + nm("c") + "a" + soaTail[1:]},
	} {
		for i := range list {
			for k := range list {
				want := int64(0)
				if i < k {
					want = -1
				} else if i > k {
					want = 1
				}
				if got := impl.CompareData(rtype, list[i], list[k]); got != want {
					t.Errorf("CompareData(%d, %q, %q) = %d", rtype, list[i], list[k], got)
				}
			}
		}
	}
	if got := impl.CompareData(impl.TypeSOA, nm("NS")+nm("ad")+soaTail, nm("ns")+nm("AD")+soaTail); got != 0 {
		t.Errorf("CompareData of data that is the same folded = %d", got)
	}
}

// CompareData is what the bytes of the folded data say.
func TestCompareDataByFold(t *testing.T) {
	r := rand.New(rand.NewSource(11))
	for _, rtype := range append(formTypes(), 99, 0, 65535) {
		var list []string
		for range 40 {
			data := someDataOf(r, rtype)
			list = append(list, data, impl.FoldData(rtype, data))
		}
		for _, a := range list {
			for _, b := range list {
				want := int64(slices.Compare([]byte(impl.FoldData(rtype, a)), []byte(impl.FoldData(rtype, b))))
				if got := impl.CompareData(rtype, a, b); got != want {
					t.Errorf("CompareData(%d, %q, %q) = %d", rtype, a, b, got)
				}
			}
		}
	}
}

// Of data that is not of its form nothing is said.
func TestIllDataSaysNothing(t *testing.T) {
	big := strings.Repeat("a", 65536)
	type illData struct {
		rtype int64
		good  string
		bad   string
	}
	list := []illData{
		{impl.TypeA, "abcd", "abc"}, {impl.TypeNS, nm("b"), nm("a") + "x"}, {impl.TypeMX, "\x00\x01" + nm("b"), nm("ab")},
		{impl.TypeSOA, root + root + soaTail, nm("A") + nm("B") + soaTail[1:]}, {impl.TypeSOA, root + root + soaTail, nm("A") + nm("B") + soaTail + "x"},
		{impl.TypeTXT, st("a"), ""}, {impl.TypeCAA, "\x00\x01a", "\x00\x00A"}, {impl.TypeNSEC, nm("a"), nm("a") + "\x00\x01\x00"}, {impl.TypeNAPTR, "1234\x00\x00\x00" + nm("b"), "1234\x00\x00\x00" + nm("b") + "x"},
		{99, "a", big}, {0, "a", big},
	}
	for _, rtype := range noTypes() {
		list = append(list, illData{rtype, "b", "a"}, illData{rtype, nm("a"), ""}, illData{rtype, root + root + soaTail, nm("A")})
	}
	for _, c := range list {
		if got := impl.DataNames(c.rtype, c.bad); len(got) != 0 {
			t.Errorf("DataNames(%d, %.300q) = %v", c.rtype, c.bad, got)
		}
		if got := impl.FoldData(c.rtype, c.bad); got != "" {
			t.Errorf("FoldData(%d, %.300q) = %.300q", c.rtype, c.bad, got)
		}
		for _, pair := range [][2]string{{c.good, c.bad}, {c.bad, c.good}, {c.bad, c.bad}} {
			if got := impl.CompareData(c.rtype, pair[0], pair[1]); got != 0 {
				t.Errorf("CompareData(%d, %.300q) = %d", c.rtype, pair, got)
			}
		}
	}
}

// noSOA are data of no SOA.
func noSOA() []string {
	good := nm("ns") + nm("admin") + soaTail
	return []string{
		"", root, soaTail, root + soaTail, good[1:], good[:len(good)-1], good + "\x00", nm("ns") + soaTail + nm("admin"),
		nm("ns") + "\xc0\x00" + soaTail, nameOf(256) + root + soaTail, root + nameOf(256) + soaTail, strings.Repeat("\x00", 21), strings.Repeat("\x00", 23), strings.Repeat("a", 65536),
	}
}

func TestSerial(t *testing.T) {
	for serial, number := range map[string]int64{
		"\x00\x00\x00\x00": 0, "\x00\x00\x00\x01": 1, "\x00\x00\x01\x00": 256, "\x00\x01\x00\x00": 65536, "\x01\x00\x00\x00": 16777216,
		"\x01\x02\x03\x04": 16909060, "\x7f\xff\xff\xff": 2147483647, "\x80\x00\x00\x00": 2147483648, "\xff\xff\xff\xff": 4294967295, "\xfe\xdc\xba\x98": 4275878552,
	} {
		for _, ahead := range []string{root + root, nm("NS") + nm("Admin", "example"), nameOf(255) + nameOf(255), nm("\xff\xff") + nm("\x00")} {
			data := ahead + serial + soaTail[4:]
			if got, code := impl.Serial(data); got != number || code != impl.OK {
				t.Errorf("Serial(%q) = %d, %d", data, got, code)
			}
			old := ahead + "\x11\x22\x33\x44" + soaTail[4:]
			if got, code := impl.WithSerial(old, number); got != data || code != impl.OK {
				t.Errorf("WithSerial(%q, %d) = %q, %d", old, number, got, code)
			}
		}
	}
	for _, bad := range noSOA() {
		if got, code := impl.Serial(bad); got != 0 || code != impl.ErrData {
			t.Errorf("Serial(%.300q) = %d, %d", bad, got, code)
		}
		// That it is no SOA is told ahead of the serial.
		for _, serial := range []int64{0, 7, 4294967295, -1, 4294967296} {
			if got, code := impl.WithSerial(bad, serial); got != "" || code != impl.ErrData {
				t.Errorf("WithSerial(%.300q, %d) = %.300q, %d", bad, serial, got, code)
			}
		}
	}
	for _, serial := range []int64{-1, 4294967296, 1<<63 - 1, -1 << 63, 1 << 40} {
		if got, code := impl.WithSerial(root+root+soaTail, serial); got != "" || code != impl.ErrForm {
			t.Errorf("WithSerial(%d) = %q, %d", serial, got, code)
		}
	}
}
