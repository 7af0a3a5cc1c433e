package tests

import (
	"slices"
	"strings"
	"testing"

	"loop.example/s01858/impl"
)

type dataCase struct {
	rtype int64
	words []impl.Word
	want  string
	code  int64
}

func checkReadData(t *testing.T, origin string, list []dataCase) {
	t.Helper()
	for _, c := range list {
		got, code := impl.ReadData(c.rtype, c.words, origin)
		if got != c.want || code != c.code {
			t.Errorf("ReadData(%d, %s, %.300q) = %.300q, %d, not %.300q, %d", c.rtype, tellWords(c.words), origin, got, code, c.want, c.code)
		}
	}
}

// Each row of the table.
func TestReadData(t *testing.T) {
	checkReadData(t, nm("example"), []dataCase{
		{impl.TypeA, ws("192.0.2.1"), "\xc0\x00\x02\x01", impl.OK},
		{impl.TypeAAAA, ws("2001:DB8::1"), v6(0x2001, 0xdb8, 0, 0, 0, 0, 0, 1), impl.OK},
		{impl.TypeNS, ws("ns1"), nm("ns1", "example"), impl.OK},
		{impl.TypeCNAME, ws("Web."), nm("Web"), impl.OK},
		{impl.TypePTR, ws("@"), nm("example"), impl.OK},
		{impl.TypeDNAME, ws("."), root, impl.OK},
		{impl.TypeMX, ws("10", "mail"), "\x00\x0a" + nm("mail", "example"), impl.OK},
		{impl.TypeMX, ws("65535", "."), "\xff\xff\x00", impl.OK},
		{impl.TypeSOA, ws("ns1", "admin.x.", "7", "7200", "15m", "1d", "4294967295"), nm("ns1", "example") + nm("admin", "x") + "\x00\x00\x00\x07\x00\x00\x1c\x20\x00\x00\x03\x84\x00\x01\x51\x80\xff\xff\xff\xff", impl.OK},
		{impl.TypeSRV, ws("1", "256", "65535", "s"), "\x00\x01\x01\x00\xff\xff" + nm("s", "example"), impl.OK},
		{impl.TypeTXT, ws("\"a b", "c\\059", "\""), st("a b") + st("c;") + "\x00", impl.OK},
		{impl.TypeHINFO, ws("PC", "\"Some System"), st("PC") + st("Some System"), impl.OK},
		{impl.TypeNAPTR, ws("1", "2", "\"u", "E2U", "\"", "."), "\x00\x01\x00\x02" + st("u") + st("E2U") + "\x00\x00", impl.OK},
		{impl.TypeCAA, ws("128", "issue", "\"ca.example; x=1"), "\x80\x05issueca.example; x=1", impl.OK},
		{impl.TypeCAA, ws("255", "Z", "\""), "\xff\x01Z", impl.OK},
		{impl.TypeCAA, ws("0", "a", strings.Repeat("y", 300)), "\x00\x01a" + strings.Repeat("y", 300), impl.OK},
		{impl.TypeNSEC, ws("host"), nm("host", "example"), impl.OK},
		{impl.TypeNSEC, ws("@", "nsec", "MX", "a", "TYPE46", "mx", "TYPE1"), nm("example") + "\x00\x06\x40\x01\x00\x00\x00\x03", impl.OK},
		{impl.TypeNSEC, ws("@", "TYPE65535", "type0", "CAA"), nm("example") + "\x00\x01\x80\x01\x01\x40\xff\x20" + strings.Repeat("\x00", 31) + "\x01", impl.OK},
	})
}

// Every kind of word at every place of its row, the others being right.
func TestReadDataWords(t *testing.T) {
	ex := nm("example")
	for _, rtype := range formTypes() {
		row := rowOf(rtype)
		for at := range row {
			for _, c := range casesOf(row[at]) {
				var words []impl.Word
				want := ""
				for i := range row {
					other := casesOf(row[i])[0]
					if i == at {
						other = c
					}
					words = append(words, other.word)
					want += other.data
				}
				if c.code != impl.OK {
					want = ""
				}
				checkReadData(t, ex, []dataCase{{rtype, words, want, c.code}})
			}
		}
	}
}

// Of two ill words the first is told, whatever the second.
func TestReadDataFirstWord(t *testing.T) {
	ex := nm("example")
	firstGood := func(kind byte) impl.Word {
		list := casesOf(kind)
		return list[slices.IndexFunc(list, func(c wordCase) bool { return c.code == impl.OK })].word
	}
	for _, rtype := range formTypes() {
		row := rowOf(rtype)
		for first := range row {
			for second := first + 1; second < len(row); second++ {
				seen := map[[2]int64]bool{}
				for _, a := range casesOf(row[first]) {
					for _, b := range casesOf(row[second]) {
						if a.code == impl.OK || b.code == impl.OK || seen[[2]int64{a.code, b.code}] {
							continue
						}
						seen[[2]int64{a.code, b.code}] = true
						var words []impl.Word
						for i := range row {
							words = append(words, firstGood(row[i]))
						}
						words[first], words[second] = a.word, b.word
						checkReadData(t, ex, []dataCase{{rtype, words, "", a.code}})
					}
				}
			}
		}
	}
	checkReadData(t, ex, []dataCase{
		{impl.TypeTXT, ws("ok", strings.Repeat("x", 256), "\\"), "", impl.ErrData},
		{impl.TypeTXT, ws("ok", "\\", strings.Repeat("x", 256)), "", impl.ErrEscape},
		{impl.TypeNSEC, ws("a..b", "FOO", "\"A"), "", impl.ErrLabel},
		{impl.TypeNSEC, ws("\"a", "FOO"), "", impl.ErrWord},
		{impl.TypeNSEC, ws("a", "A", "FOO", "\"A"), "", impl.ErrType},
		{impl.TypeNSEC, ws("a", "A", "\"A", "FOO"), "", impl.ErrWord},
		{impl.TypeNSEC, ws("a", "\"FOO"), "", impl.ErrWord},
	})
}

// Too few and too many words are told ahead of what is wrong with them.
func TestReadDataCounts(t *testing.T) {
	ex := nm("example")
	for _, rtype := range formTypes() {
		row := rowOf(rtype)
		open := rtype == impl.TypeTXT || rtype == impl.TypeNSEC
		for n := range len(row) + 3 {
			if n == len(row) || open && n > len(row) {
				continue
			}
			for _, text := range []string{"1", "a..b", "\\", "", "\"q", "7"} {
				checkReadData(t, ex, []dataCase{{rtype, ws(times(n, text)...), "", impl.ErrWord}})
			}
			var words []impl.Word
			for i := range n {
				words = append(words, casesOf(row[min(i, len(row)-1)])[0].word)
			}
			checkReadData(t, ex, []dataCase{{rtype, words, "", impl.ErrWord}})
		}
		checkReadData(t, ex, []dataCase{{rtype, nil, "", impl.ErrWord}, {rtype, []impl.Word{}, "", impl.ErrWord}})
	}
	for _, rtype := range freeTypes() {
		for _, words := range [][]impl.Word{nil, ws("1"), ws("1.2.3.4"), ws("a", "b"), ws("\"\\#", "0"), ws("#", "0"), ws("\\\\#", "0"), ws("\\035", "0"), ws("", "\\#", "0")} {
			checkReadData(t, ex, []dataCase{{rtype, words, "", impl.ErrWord}})
		}
	}
}

// The types, the origin and the number of words are told in this order, ahead of all else.
func TestReadDataAhead(t *testing.T) {
	many := ws(times(301, "x")...)
	for _, words := range [][]impl.Word{nil, ws("1.2.3.4"), ws("\\#", "0"), ws("\\#"), many} {
		for _, rtype := range noTypes() {
			for _, origin := range []string{"", nm("example"), "x"} {
				checkReadData(t, origin, []dataCase{{rtype, words, "", impl.ErrType}})
			}
		}
		for _, origin := range noNames() {
			if origin == "" {
				continue
			}
			for _, rtype := range []int64{0, impl.TypeA, impl.TypeTXT, 99, 65535} {
				checkReadData(t, origin, []dataCase{{rtype, words, "", impl.ErrForm}})
			}
		}
	}
	for _, rtype := range []int64{0, impl.TypeA, impl.TypeTXT, impl.TypeNSEC, 99, 65535} {
		checkReadData(t, "", []dataCase{{rtype, many, "", impl.ErrSize}, {rtype, ws(append([]string{"\\#", "0"}, times(299, "")...)...), "", impl.ErrSize}})
		checkReadData(t, "", []dataCase{{rtype, make([]impl.Word, 1000000), "", impl.ErrSize}})
	}
	for _, rtype := range []int64{0, 65535} {
		checkReadData(t, "", []dataCase{{rtype, ws("\\#", "1", "Fe"), "\xfe", impl.OK}})
	}
}

// As many words as there may be.
func TestReadDataMaxWords(t *testing.T) {
	checkReadData(t, root, []dataCase{
		{impl.TypeTXT, ws(times(300, "x")...), strings.Repeat("\x01x", 300), impl.OK},
		{impl.TypeTXT, ws(times(301, "x")...), "", impl.ErrSize},
		{impl.TypeNSEC, ws(append([]string{"."}, times(299, "A")...)...), "\x00\x00\x01\x40", impl.OK},
		{impl.TypeNSEC, ws(append([]string{"."}, times(300, "A")...)...), "", impl.ErrSize},
		{99, ws(append([]string{"\\#", "298"}, times(298, "aB")...)...), strings.Repeat("\xab", 298), impl.OK},
		{99, ws(append([]string{"\\#", "0"}, times(298, "")...)...), "", impl.OK},
		{99, ws(append([]string{"\\#", "299"}, times(299, "ab")...)...), "", impl.ErrSize},
		{impl.TypeA, ws(times(300, "1.2.3.4")...), "", impl.ErrWord},
		{impl.TypeA, ws(times(301, "1.2.3.4")...), "", impl.ErrSize},
	})
}

// Names are read with the origin that there is, and need none if they are whole.
func TestReadDataOrigin(t *testing.T) {
	for _, c := range []struct {
		origin, text, want string
		code               int64
	}{
		{"", "www", "", impl.ErrRelative},
		{"", "@", "", impl.ErrRelative},
		{"", "www.", nm("www"), impl.OK},
		{root, "www", nm("www"), impl.OK},
		{nm("B", "c"), "www", nm("www", "B", "c"), impl.OK},
		{nameOf(255), "www", "", impl.ErrLong},
		{nameOf(255), "@", nameOf(255), impl.OK},
	} {
		front := func(head string) string {
			if c.code != impl.OK {
				return ""
			}
			return head + c.want
		}
		checkReadData(t, c.origin, []dataCase{
			{impl.TypeNS, ws(c.text), front(""), c.code},
			{impl.TypeCNAME, ws(c.text), front(""), c.code},
			{impl.TypePTR, ws(c.text), front(""), c.code},
			{impl.TypeDNAME, ws(c.text), front(""), c.code},
			{impl.TypeNSEC, ws(c.text), front(""), c.code},
			{impl.TypeMX, ws("1", c.text), front("\x00\x01"), c.code},
			{impl.TypeSRV, ws("1", "2", "3", c.text), front("\x00\x01\x00\x02\x00\x03"), c.code},
			{impl.TypeNAPTR, ws("1", "2", "", "", "", c.text), front("\x00\x01\x00\x02\x00\x00\x00"), c.code},
		})
		for _, words := range [][]impl.Word{ws(c.text, ".", "1", "1", "1", "1", "1"), ws(".", c.text, "1", "1", "1", "1", "1")} {
			names := c.want + root
			if words[0].Text == "." {
				names = root + c.want
			}
			if c.code == impl.OK {
				names += strings.Repeat("\x00\x00\x00\x01", 5)
			} else {
				names = ""
			}
			checkReadData(t, c.origin, []dataCase{{impl.TypeSOA, words, names, c.code}})
		}
	}
}

func TestReadDataPlain(t *testing.T) {
	ex := nm("example")
	checkReadData(t, ex, []dataCase{
		{99, ws("\\#", "0"), "", impl.OK},
		{99, ws("\\#", "0000000000"), "", impl.OK},
		{99, ws("\\#", "0", ""), "", impl.OK},
		{99, ws("\\#", "0", "", "", ""), "", impl.OK},
		{99, ws("\\#", "2", "ab", "CD"), "\xab\xcd", impl.OK},
		{99, ws("\\#", "2", "a", "bC", "d"), "\xab\xcd", impl.OK},
		{99, ws("\\#", "2", "", "abcd", ""), "\xab\xcd", impl.OK},
		{99, ws("\\#", "8", "0123456789AbCdEf"), "\x01\x23\x45\x67\x89\xab\xcd\xef", impl.OK},
		{99, ws("\\#", "0000000001", "fF"), "\xff", impl.OK},
		{99, ws("\\#"), "", impl.ErrWord},
		{99, ws("\\#", ""), "", impl.ErrWord},
		{99, ws("\\#", "", "0"), "", impl.ErrWord},
		{99, ws("\\#", "1"), "", impl.ErrWord},
		{99, ws("\\#", "1", ""), "", impl.ErrWord},
		{99, ws("\\#", "1", "a"), "", impl.ErrWord},
		{99, ws("\\#", "1", "abc"), "", impl.ErrWord},
		{99, ws("\\#", "1", "abcd"), "", impl.ErrWord},
		{99, ws("\\#", "0", "a"), "", impl.ErrWord},
		{99, ws("\\#", "0", "ab"), "", impl.ErrWord},
		{99, ws("\\#", "2", "abcd", "e"), "", impl.ErrWord},
		{99, ws("\\#", "2", "abc"), "", impl.ErrWord},
		{99, ws("\\#", "2", "abc", ""), "", impl.ErrWord},
		{99, ws("\\#", "00000000001", "ab"), "", impl.ErrWord},
		{99, ws("\\#", "-1"), "", impl.ErrWord},
		{99, ws("\\#", "+1", "ab"), "", impl.ErrWord},
		{99, ws("\\#", "0x1", "ab"), "", impl.ErrWord},
		{99, ws("\\#", "1s", "ab"), "", impl.ErrWord},
		{99, ws("\\#", " 1", "ab"), "", impl.ErrWord},
		{99, ws("\\#", "9999999999", "ab"), "", impl.ErrWord},
		{99, ws("\\#", "9223372036854775808"), "", impl.ErrWord},
		{99, ws("\\#", "\"1", "ab"), "", impl.ErrWord},
		{99, ws("\\#", "\"0"), "", impl.ErrWord},
		{99, ws("\\#", "1", "\"ab"), "", impl.ErrWord},
		{99, ws("\\#", "1", "ab", "\""), "", impl.ErrWord},
		{99, ws("\\#", "0", "\""), "", impl.ErrWord},
		{99, ws("\\#", "1", "ag"), "", impl.ErrWord},
		{99, ws("\\#", "1", "ga"), "", impl.ErrWord},
		{99, ws("\\#", "1", "0G"), "", impl.ErrWord},
		{99, ws("\\#", "2", "ab", "x1"), "", impl.ErrWord},
		{99, ws("\\#", "1", "\\a"), "", impl.ErrWord},
		{99, ws("\\#", "1", "0 "), "", impl.ErrWord},
		{99, ws("\\#0"), "", impl.ErrWord},
	})
}

// Every byte as a digit of the plain form, in both places.
func TestReadDataPlainDigits(t *testing.T) {
	const digits = "0123456789abcdef"
	for n := range 256 {
		c := string([]byte{byte(n)})
		value := strings.Index(digits, strings.ToLower(c))
		if n > 127 {
			value = -1
		}
		low := dataCase{99, append(ws("\\#", "1"), impl.Word{Text: "5" + c}), "", impl.ErrWord}
		high := dataCase{99, append(ws("\\#", "1", ""), impl.Word{Text: c + "5"}), "", impl.ErrWord}
		if value >= 0 {
			low.want, low.code = string([]byte{byte(0x50 + value)}), impl.OK
			high.want, high.code = string([]byte{byte(16*value + 5)}), impl.OK
		}
		checkReadData(t, "", []dataCase{low, high})
	}
}

// The plain form is right for every type, if the bytes are of its form; what is wrong with the words is told ahead.
func TestReadDataPlainTypes(t *testing.T) {
	hex := func(data string) string {
		out := ""
		for i := range len(data) {
			out += string([]byte{"0123456789abcdef"[data[i]>>4], "0123456789ABCDEF"[data[i]&15]})
		}
		return out
	}
	for rtype, list := range someData() {
		for _, data := range list {
			if len(data) > 1000 {
				continue
			}
			size := itoa(len(data))
			checkReadData(t, "", []dataCase{
				{rtype, ws("\\#", size, hex(data)), data, impl.OK},
				{rtype, ws("\\#", size, hex(data)+"0"), "", impl.ErrWord},
				{rtype, ws("\\#", size, hex(data), "xy"), "", impl.ErrWord},
			})
		}
	}
	for _, rtype := range formTypes() {
		for _, data := range []string{"", "\xc0", "\x01\x02\x03\x04\x05", strings.Repeat("\xff", 17)} {
			if isData(rtype, data) {
				continue
			}
			size := itoa(len(data))
			checkReadData(t, "", []dataCase{
				{rtype, ws("\\#", size, hex(data)), "", impl.ErrData},
				{rtype, ws("\\#", size, hex(data), "0"), "", impl.ErrWord},
				{rtype, ws("\\#", size, "\""+hex(data)), "", impl.ErrWord},
			})
		}
	}
	checkReadData(t, "", []dataCase{
		{impl.TypeA, ws("\\#", "1", "ab"), "", impl.ErrData},
		{impl.TypeA, ws("\"\\#", "4", "01020304"), "", impl.ErrWord},
		{impl.TypeTXT, ws("\"\\#", "4", "01020304"), st("#") + st("4") + st("01020304"), impl.OK},
		{impl.TypeTXT, ws("x", "\\#"), st("x") + st("#"), impl.OK},
		{impl.TypeTXT, ws("\\#", "x"), "", impl.ErrWord},
		{impl.TypeTXT, ws("\\035", "x"), st("#") + st("x"), impl.OK},
		{impl.TypeNS, ws("\\#."), nm("#"), impl.OK},
		{impl.TypeNS, ws("\\#"), "", impl.ErrWord},
		{impl.TypeMX, ws("1", "\\#"), "", impl.ErrRelative},
	})
	checkReadData(t, root, []dataCase{{impl.TypeMX, ws("1", "\\#"), "\x00\x01\x01#\x00", impl.OK}})
}

// Data of as many bytes as there may be, and one more.
func TestReadDataMaxData(t *testing.T) {
	x := strings.Repeat("x", 65533)
	long := strings.Repeat("y", 255)
	texts := func(n, last int) []impl.Word { return ws(append(times(n, long), long[:last])...) }
	checkReadData(t, root, []dataCase{
		{impl.TypeCAA, ws("0", "a", x[:65532]), "\x00\x01a" + x[:65532], impl.OK},
		{impl.TypeCAA, ws("0", "a", x), "", impl.ErrData},
		{impl.TypeCAA, ws("0", "a", x+"\\"), "", impl.ErrEscape},
		{impl.TypeCAA, ws("0", "a", strings.Repeat("\\120", 65532)), "\x00\x01a" + x[:65532], impl.OK},
		{impl.TypeCAA, ws("0", "a", strings.Repeat("\\120", 65533)), "", impl.ErrData},
		{impl.TypeCAA, ws("256", "a", x), "", impl.ErrWord},
		{impl.TypeTXT, texts(255, 254), strings.Repeat(st(long), 255) + st(long[:254]), impl.OK},
		{impl.TypeTXT, texts(255, 255), "", impl.ErrData},
		{impl.TypeTXT, texts(299, 255), "", impl.ErrData},
		{impl.TypeTXT, append(texts(298, 255), impl.Word{Text: "\\"}), "", impl.ErrEscape},
		{99, ws("\\#", "65535", strings.Repeat("78", 65535)), x + "xx", impl.OK},
		{99, ws("\\#", "65536", strings.Repeat("78", 65536)), "", impl.ErrData},
		{99, ws("\\#", "65536", strings.Repeat("78", 65536)+"x"), "", impl.ErrWord},
		{99, ws("\\#", "65535", strings.Repeat("78", 65536)), "", impl.ErrWord},
		{99, ws("\\#", "2000000", strings.Repeat("78", 1000000), strings.Repeat("78", 1000000)), "", impl.ErrData},
	})
}
