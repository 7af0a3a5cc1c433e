package tests

import (
	"math/rand"
	"strconv"
	"strings"

	"loop.example/s01858/impl"
)

// ws are words; one that begins with a quote stood in quotes.
func ws(texts ...string) []impl.Word {
	var out []impl.Word
	for _, s := range texts {
		if strings.HasPrefix(s, "\"") {
			out = append(out, impl.Word{Text: s[1:], Quoted: true})
		} else {
			out = append(out, impl.Word{Text: s})
		}
	}
	return out
}

// tellWords writes words for a message of a test, not all of them if they are many or long.
func tellWords(words []impl.Word) string {
	out := itoa(len(words)) + " words"
	for _, word := range words[:min(len(words), 8)] {
		text := strconv.Quote(word.Text[:min(len(word.Text), 80)])
		if word.Quoted {
			text += " in quotes"
		}
		out += ", " + text
	}
	return out
}

// cutWords cuts a line as ShowData writes it: words with a blank between each two, some in quotes, escapes within.
func cutWords(text string) []impl.Word {
	var out []impl.Word
	var word []byte
	quoted, open := false, false
	end := func() {
		out = append(out, impl.Word{Text: string(word), Quoted: quoted})
		word, quoted = nil, false
	}
	for i := 0; i < len(text); i++ {
		switch c := text[i]; {
		case c == '\\' && i+1 < len(text):
			word = append(word, c, text[i+1])
			i++
		case c == '"':
			quoted, open = true, !open
		case c == ' ' && !open:
			end()
		default:
			word = append(word, c)
		}
	}
	end()
	return out
}

// wordCase is a word of some kind: what it reads as, or why it is ill.
type wordCase struct {
	word impl.Word
	data string
	code int64
}

// rowOf tells a row of chapter 4's table by a letter a word: 4 and 6 an address, n a name, and b, s, l a number of
// one, two, four bytes, t a time, x a text, g a tag, r a text of any length, y a type.
func rowOf(rtype int64) string {
	return map[int64]string{
		impl.TypeA: "4", impl.TypeAAAA: "6", impl.TypeNS: "n", impl.TypeCNAME: "n", impl.TypePTR: "n", impl.TypeDNAME: "n",
		impl.TypeMX: "sn", impl.TypeSOA: "nnltttt", impl.TypeSRV: "sssn", impl.TypeTXT: "x", impl.TypeHINFO: "xx",
		impl.TypeNAPTR: "ssxxxn", impl.TypeCAA: "bgr", impl.TypeNSEC: "n",
	}[rtype]
}

// numberCases are words of a number of that many bytes.
func numberCases(size int) []wordCase {
	most := uint64(1)<<(8*size) - 1
	bytesOf := func(n uint64) string {
		out := ""
		for i := size - 1; i >= 0; i-- {
			out += string([]byte{byte(n >> (8 * i))})
		}
		return out
	}
	full, over := strconv.FormatUint(most, 10), strconv.FormatUint(most+1, 10)
	out := []wordCase{
		{impl.Word{Text: "0"}, bytesOf(0), impl.OK},
		{impl.Word{Text: "7"}, bytesOf(7), impl.OK},
		{impl.Word{Text: "0000000000"}, bytesOf(0), impl.OK},
		{impl.Word{Text: "0000000042"}, bytesOf(42), impl.OK},
		{impl.Word{Text: full}, bytesOf(most), impl.OK},
	}
	for _, bad := range []string{"", over, "9999999999", "00000000000", "00000000001", "4294967296", "18446744073709551617", "-1", "+1", " 1", "1 ", "1x", "0x1", "1h", "1s", "1.0", "\\049", "a", "/", ":"} {
		out = append(out, wordCase{impl.Word{Text: bad}, "", impl.ErrWord})
	}
	for _, quoted := range []string{"0", "7", "", over, "x"} {
		out = append(out, wordCase{impl.Word{Text: quoted, Quoted: true}, "", impl.ErrWord})
	}
	return out
}

// timeCases are words of a time: all numbers of four bytes, and what ReadTTL takes.
func timeCases() []wordCase {
	var out []wordCase
	for _, c := range numberCases(4) {
		if c.code == impl.OK || c.word.Quoted {
			out = append(out, c)
		}
	}
	for s, data := range map[string]string{
		"1s": "\x00\x00\x00\x01", "2h": "\x00\x00\x1c\x20", "1H30m": "\x00\x00\x15\x18", "1w": "\x00\x09\x3a\x80", "2147483647s": "\x7f\xff\xff\xff",
		"2147483647": "\x7f\xff\xff\xff", "2147483648": "\x80\x00\x00\x00", "4294967294": "\xff\xff\xff\xfe",
		strings.Repeat("1s", 30): "\x00\x00\x00\x1e",
	} {
		out = append(out, wordCase{impl.Word{Text: s}, data, impl.OK})
	}
	for _, bad := range []string{"", "4294967296", "9999999999", "00000000000", "2147483648s", "3551w", "1x", "h", "1h3", "-1", " 1", "\\049", "0" + strings.Repeat("1s", 30)} {
		out = append(out, wordCase{impl.Word{Text: bad}, "", impl.ErrTTL})
	}
	return append(out, wordCase{impl.Word{Text: "2h", Quoted: true}, "", impl.ErrWord})
}

// nameCases are words of a name, read with the origin example.
func nameCases() []wordCase {
	out := []wordCase{
		{impl.Word{Text: "@"}, nm("example"), impl.OK},
		{impl.Word{Text: "."}, root, impl.OK},
		{impl.Word{Text: "Www"}, nm("Www", "example"), impl.OK},
		{impl.Word{Text: "a\\.b.c."}, nm("a.b", "c"), impl.OK},
		{impl.Word{Text: strings.Repeat("b.", 127)}, nm(times(127, "b")...), impl.OK},
		{impl.Word{Text: ""}, "", impl.ErrName},
		{impl.Word{Text: "a..b"}, "", impl.ErrLabel},
		{impl.Word{Text: strings.Repeat("a", 64)}, "", impl.ErrLabel},
		{impl.Word{Text: "a\\"}, "", impl.ErrEscape},
		{impl.Word{Text: "\\256"}, "", impl.ErrEscape},
		{impl.Word{Text: strings.Repeat("b.", 128)}, "", impl.ErrLong},
		{impl.Word{Text: strings.Repeat("b", 1101)}, "", impl.ErrLong},
	}
	for _, quoted := range []string{"@", "www", "", "a..b"} {
		out = append(out, wordCase{impl.Word{Text: quoted, Quoted: true}, "", impl.ErrWord})
	}
	return out
}

// textCases are words of a text, in quotes or not; a short one has its length ahead.
func textCases(short bool) []wordCase {
	lay := func(text string) string {
		if short {
			return st(text)
		}
		return text
	}
	out := []wordCase{}
	for _, quoted := range []bool{false, true} {
		for s, data := range map[string]string{
			"": "", "a b": "a b", "c\\059": "c;", "\\\"\\\\": "\"\\", ".@": ".@", "\\000\\255": "\x00\xff", "7": "7", "x\\#": "x#",
			strings.Repeat("x", 255): strings.Repeat("x", 255), strings.Repeat("\\120", 255): strings.Repeat("x", 255),
		} {
			out = append(out, wordCase{impl.Word{Text: s, Quoted: quoted}, lay(data), impl.OK})
		}
		for _, bad := range []string{"\\", "a\\25", "\\256", strings.Repeat("x", 256) + "\\"} {
			out = append(out, wordCase{impl.Word{Text: bad, Quoted: quoted}, "", impl.ErrEscape})
		}
		for _, long := range []string{strings.Repeat("x", 256), strings.Repeat("\\120", 256), strings.Repeat("x", 512)} {
			c := wordCase{impl.Word{Text: long, Quoted: quoted}, "", impl.ErrData}
			if !short {
				c.data, c.code = strings.ReplaceAll(long, "\\120", "x"), impl.OK
			}
			out = append(out, c)
		}
	}
	return out
}

// otherCases are words of addresses and of tags.
func otherCases(kind byte) []wordCase {
	good, bad, badCode := map[string]string{}, []string{}, int64(impl.ErrData)
	switch kind {
	case '4':
		good = map[string]string{"1.2.3.4": "\x01\x02\x03\x04", "0.0.0.0": "\x00\x00\x00\x00", "255.255.255.255": "\xff\xff\xff\xff"}
		bad = append(noV4(), "::1")
	case '6':
		good = map[string]string{"::": v6(0, 0, 0, 0, 0, 0, 0, 0), "2001:DB8::1.2.3.4": v6(0x2001, 0xdb8, 0, 0, 0, 0, 0x102, 0x304)}
		bad = noV6()
	case 'g':
		good = map[string]string{"a": st("a"), "issue": st("issue"), "IssueWild9": st("IssueWild9"), "0": st("0"), "abcXYZ012345678": st("abcXYZ012345678")}
		bad = []string{"", "abcXYZ0123456789", strings.Repeat("a", 300), "iss ue", "is-sue", "a.", "\\097", "a_", "\xe9", "@", "[", "`", "{", "/", ":"}
		badCode = impl.ErrWord
	}
	var out []wordCase
	for s, data := range good {
		out = append(out, wordCase{impl.Word{Text: s}, data, impl.OK}, wordCase{impl.Word{Text: s, Quoted: true}, "", impl.ErrWord})
	}
	for _, s := range bad {
		out = append(out, wordCase{impl.Word{Text: s}, "", badCode})
	}
	return append(out, wordCase{impl.Word{Text: "", Quoted: true}, "", impl.ErrWord}, wordCase{impl.Word{Text: "~", Quoted: true}, "", impl.ErrWord})
}

// casesOf are the words of a kind of rowOf.
func casesOf(kind byte) []wordCase {
	switch kind {
	case 'b':
		return numberCases(1)
	case 's':
		return numberCases(2)
	case 'l':
		return numberCases(4)
	case 't':
		return timeCases()
	case 'n':
		return nameCases()
	case 'x':
		return textCases(true)
	case 'r':
		return textCases(false)
	}
	return otherCases(kind)
}

// someText makes a text of any bytes.
func someText(r *rand.Rand, most int) string {
	b := make([]byte, r.Intn(most+1))
	r.Read(b)
	return string(b)
}
