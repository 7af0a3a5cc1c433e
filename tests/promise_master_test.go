package tests

import (
	"math"
	"math/rand"
	"slices"
	"strings"
	"testing"

	"loop.example/s01858/impl"
)

// callMaster calls the functions of chapters 6 and 7 that read, and holds their answers against what the tests say
// those chapters are. It tells ReadMaster's code.
func callMaster(t *testing.T, text, origin string) int64 {
	t.Helper()
	lines, code, at := impl.Lex(text)
	wantLines, wantCode, wantAt := lexOf(text)
	if code != wantCode || at != wantAt || !sameLines(lines, wantLines) {
		t.Errorf("Lex(%.600q) = %s, %d at %d, want %s, %d at %d", text, tellLines(lines), code, at, tellLines(wantLines), wantCode, wantAt)
	}
	list, code, at := impl.ReadMaster(text, origin)
	want, wantCode, wantAt := masterOf(text, origin)
	if code != wantCode || at != wantAt || !slices.Equal(list, want) {
		t.Errorf("ReadMaster(%.600q, %.20q) = %s, %d at %d, want %s, %d at %d", text, origin, tellRecords(list), code, at, tellRecords(want), wantCode, wantAt)
	}
	return code
}

// callShow calls ShowMaster with any records.
func callShow(t *testing.T, list []impl.RR) {
	t.Helper()
	text, code := impl.ShowMaster(list)
	good := isMasterList(list)
	if code != impl.OK && text != "" || good == (code == impl.ErrForm) || code == impl.OK && strings.Count(text, "\n") != len(list) {
		t.Errorf("ShowMaster of %s = %.300q, %d", tellRecords(list), text, code)
	}
}

// someOf makes a text of so many letters.
func someOf(r *rand.Rand, letters string, size int) string {
	b := make([]byte, size)
	for i := range b {
		b[i] = letters[r.Intn(len(letters))]
	}
	return string(b)
}

// P1, P8: arbitrary bytes, and such as mean something.
func TestP8Arbitrary(t *testing.T) {
	r := rand.New(rand.NewSource(31))
	seen := map[int64]int{}
	for range 40000 {
		seen[callMaster(t, someText(r, 60), root)]++
		seen[callMaster(t, someOf(r, " \t\r\n\n;()\"\\ab$@.15", r.Intn(40)), nm("o"))]++
		seen[callMaster(t, someOf(r, "a  \n(\n)\";\\", r.Intn(12)), "")]++
	}
	for _, code := range []int64{impl.OK, impl.ErrQuote, impl.ErrParen, impl.ErrEscape, impl.ErrWord, impl.ErrOwner, impl.ErrDirective, impl.ErrType, impl.ErrRelative} {
		if seen[code] < 100 {
			t.Errorf("the code %d came up only %d times", code, seen[code])
		}
	}
}

// P8: every text of a few bytes that mean something.
func TestP8Short(t *testing.T) {
	const letters = "a \n;()\"\\"
	for size := range 7 {
		count := 1
		for range size {
			count *= len(letters)
		}
		for n := range count {
			text := ""
			for range size {
				text += string(letters[n%len(letters)])
				n /= len(letters)
			}
			lines, code, at := impl.Lex(text)
			want, wantCode, wantAt := lexOf(text)
			if code != wantCode || at != wantAt || !sameLines(lines, want) {
				t.Fatalf("Lex(%q) = %s, %d at %d, want %s, %d at %d", text, tellLines(lines), code, at, tellLines(want), wantCode, wantAt)
			}
		}
	}
}

// lineParts are what lines are made of, right and wrong, the right ones more often.
func lineParts() [][]string {
	return [][]string{
		{"x", "x", "y.z", "@", " ", " ", "\t", "\r", "\\$a", "5", "IN", "\"x\"", "a..b", "\\256", ".", "(x)", " (\n)"},
		{"", "", "", "5", "7", "1h", "0", "2147483647", "2147483648", "5 6", "1x", "\"5\""},
		{"", "", "", "IN", "in", "CLASS1", "class00001", "CH", "CLASS", "CLASS000001", "IN IN", "CLASS2", "\"IN\"", "hs"},
		{"", "", "", "", "", "8", "(\n8", "9 IN"},
		{"A", "A", "A", "TXT", "NS", "TYPE731", "MX", "\"A\"", "FOO", "ANY", "TYPE0", "TYPE1", ""},
		{"1.2.3.4", "1.2.3.4", "1.2.3.4", "x", "\"a;\"\"b\"", "\\# 0", "\\# 1 ab", "1 y", "1.2.3", "", "( 1.2.3.4\n)", "\\#"},
		{"", "", "", "", " ", " ;c", ";", ")", "(", "\"", "\\"},
	}
}

// someLine makes a line of a zone's text, perhaps a directive.
func someLine(r *rand.Rand) string {
	pick := func(list ...string) string { return list[r.Intn(len(list))] }
	if r.Intn(4) == 0 {
		return pick("$TTL", "$ttl", "$ORIGIN", "$Origin", "$ORIGIN", "$FOO", " $TTL", "\"$TTL\"") + pick(" ", "\t", " (\n)") + pick("5", "6", "q", "q.", "r", "@", "", "5 6", "\"q\"", "a..b")
	}
	out := ""
	for _, list := range lineParts() {
		out += pick(list...) + pick(" ", " ", " ", "\t", "  ", "")
	}
	return out
}

// P8: lines that are almost right, one or several, so that the first ill one counts.
func TestP8Lines(t *testing.T) {
	r := rand.New(rand.NewSource(32))
	seen := map[int64]int{}
	for n := range 60000 {
		text := ""
		for range 1 + n%5 {
			text += someLine(r) + "\n"
		}
		seen[callMaster(t, text, []string{"", root, nm("o"), nm("o", "p")}[r.Intn(4)])]++
	}
	for _, code := range []int64{
		impl.OK, impl.ErrLabel, impl.ErrEscape, impl.ErrRelative, impl.ErrType, impl.ErrData, impl.ErrQuote, impl.ErrParen,
		impl.ErrWord, impl.ErrDirective, impl.ErrOwner, impl.ErrTTL, impl.ErrClass,
	} {
		if seen[code] < 100 {
			t.Errorf("the code %d came up only %d times", code, seen[code])
		}
	}
}

// P8: a good text with bytes turned, cut out or put in.
func TestP8Bent(t *testing.T) {
	r := rand.New(rand.NewSource(33))
	for range 20000 {
		b := []byte(exampleZone)
		for range 1 + r.Intn(3) {
			at := r.Intn(len(b))
			c := " \t\n;()\"\\$@.5Aa\x00\xff"[r.Intn(16)]
			switch r.Intn(3) {
			case 0:
				b[at] = c
			case 1:
				b = slices.Delete(b, at, min(len(b), at+1+r.Intn(20)))
			case 2:
				b = slices.Insert(b, at, c)
			}
		}
		callMaster(t, string(b), []string{"", nm("o")}[r.Intn(2)])
	}
	for at := range len(exampleZone) {
		callMaster(t, exampleZone[:at], "")
		callMaster(t, exampleZone[at:], nm("o"))
	}
}

// P1: no call panics, and every call ends; what is not read is refused.
func TestP1Master(t *testing.T) {
	for _, text := range oddTexts() {
		for _, origin := range []string{"", root, nameOf(255), text} {
			callMaster(t, text, origin)
			callMaster(t, "x 5 "+text, origin)
			callMaster(t, "$ORIGIN "+text, origin)
			callMaster(t, "\""+text+"\"", origin)
		}
	}
	for c := range 256 {
		b := string([]byte{byte(c)})
		for _, n := range []int{1, 2, 3, 301, 39999, 40000, 40001} {
			callMaster(t, strings.Repeat(b, n), root)
		}
		callMaster(t, b+" 5 TXT "+b+"\n"+b+" A 1.2.3.4", root)
	}
	for _, text := range []string{strings.Repeat("a\n", 20000), strings.Repeat("x 5 A 1.2.3.4\n", 2857), strings.Repeat("(\n)", 13333), strings.Repeat("\"\"\n", 13333), strings.Repeat("\\a ", 13333), strings.Repeat("$TTL 5\n", 5714), strings.Repeat("$ORIGIN a\n", 4000), strings.Repeat(";\n", 4000000)} {
		callMaster(t, text, root)
		callMaster(t, text, "")
	}
}

// P1: records of any fields are written, or refused.
func TestP1MasterShow(t *testing.T) {
	r := rand.New(rand.NewSource(34))
	numbers := []int64{0, 1, 2, -1, 41, 249, 255, 256, 65535, 65536, 2147483647, 2147483648, math.MaxInt64, math.MinInt64}
	names := append(noNames()[:19], someNames()...)
	for range 20000 {
		var list []impl.RR
		for range r.Intn(4) {
			rr := zoneRecord(r)
			switch r.Intn(8) {
			case 0:
				rr.Owner = names[r.Intn(len(names))]
			case 1:
				rr.Type = numbers[r.Intn(len(numbers))]
			case 2:
				rr.Class = numbers[r.Intn(len(numbers))]
			case 3:
				rr.TTL = numbers[r.Intn(len(numbers))]
			case 4:
				rr.Data = names[r.Intn(len(names))]
			}
			list = append(list, rr)
		}
		callShow(t, list)
	}
	huge := strings.Repeat("\x01a", 4000000)
	callShow(t, []impl.RR{aRecord(huge, 5)})
	callShow(t, []impl.RR{rrOf(root, impl.TypeTXT, huge)})
}

// P1: nothing is written into an argument, nor behind it into memory that belongs to its owner.
func TestP1MasterLeavesArguments(t *testing.T) {
	all := append(exampleRecords(), impl.RR{Owner: "left"}, impl.RR{Owner: "alone"})
	before := slices.Clone(all)
	for n := range len(all) + 1 {
		impl.ShowMaster(all[:n])
		if !slices.Equal(all, before) {
			t.Fatalf("ShowMaster made %s of %s", tellRecords(all), tellRecords(before))
		}
	}
}

// P1: an answer is new memory: it stays as it was, whatever becomes of another one, or of another list of its own.
func TestP1MasterIsNew(t *testing.T) {
	text := "a b\nc d e\n\n f \"g\"\nh"
	want := []impl.Line{ln(1, false, "a", "b"), ln(2, false, "c", "d", "e"), ln(4, true, "f", "\"g"), ln(5, false, "h")}
	for i := range want {
		got, _, _ := impl.Lex(text)
		other, _, _ := impl.Lex(text)
		_ = append(got[i].Words, impl.Word{Text: "spoilt"})
		for k := range got[i].Words {
			got[i].Words[k] = impl.Word{Text: "spoilt"}
		}
		for k := range want {
			if k != i && !sameLine(got[k], want[k]) {
				t.Errorf("the words of the lines %d and %d share memory", i, k)
			}
		}
		if !sameLines(other, want) {
			t.Errorf("two answers of Lex share memory: %s", tellLines(other))
		}
	}
	list, _, _ := impl.ReadMaster(exampleZone, "")
	other, _, _ := impl.ReadMaster(exampleZone, "")
	clear(list)
	if !slices.Equal(other, exampleRecords()) {
		t.Errorf("two answers of ReadMaster share memory: %s", tellRecords(other))
	}
}

// lexAndRead writes data, cuts it by Lex, in a line of its own or behind the words that a record has ahead, and reads it.
func lexAndRead(t *testing.T, rtype int64, data string) {
	t.Helper()
	text, code := impl.ShowData(rtype, data)
	if code != impl.OK {
		t.Errorf("ShowData(%d, %.300q) = %.300q, %d", rtype, data, text, code)
		return
	}
	words := len(cutWords(text))
	if len(text) > 30000 || words > 290 {
		return
	}
	for _, c := range []struct {
		ahead, behind string
		front         int
	}{{"", "", 0}, {" ", "\n", 0}, {"x 5 IN A ", " ; c", 4}, {"\n(\n", "\n)", 0}} {
		line := c.ahead + text + c.behind
		lines, code, at := impl.Lex(line)
		if code != impl.OK || at != 0 || len(lines) != 1 || len(lines[0].Words) != c.front+words {
			t.Errorf("%d, %.300q: Lex(%.300q) = %s, %d at %d", rtype, data, line, tellLines(lines), code, at)
			return
		}
		for _, origin := range []string{"", root, nm("example"), nameOf(255)} {
			if back, code := impl.ReadData(rtype, lines[0].Words[c.front:], origin); code != impl.OK || back != data {
				t.Errorf("%d, %.300q: written as %.300q, read with %.20q as %.300q, %d", rtype, data, text, origin, back, code)
			}
		}
	}
}

// P4: data of every type, with the edges that it has.
func TestP4Lex(t *testing.T) {
	for rtype, list := range someData() {
		for _, data := range list {
			lexAndRead(t, rtype, data)
		}
	}
	for _, c := range showCases() {
		lexAndRead(t, c.rtype, c.data)
	}
	r := rand.New(rand.NewSource(35))
	for _, rtype := range append(formTypes(), freeTypes()...) {
		for range 300 {
			lexAndRead(t, rtype, someDataOf(r, rtype))
		}
	}
}

// P4: as many words and bytes as the promise names; every byte in texts and names.
func TestP4LexEdges(t *testing.T) {
	for _, n := range []int{1, 2, 289, 290} {
		lexAndRead(t, impl.TypeTXT, strings.Repeat("\x01;", n))
		lexAndRead(t, impl.TypeTXT, strings.Repeat("\x00", n))
		lexAndRead(t, impl.TypeTXT, strings.Repeat("\x18"+strings.Repeat("\xff", 24), n))
		var types []int64
		for k := range n - 1 {
			types = append(types, int64(k*217))
		}
		bits, _ := impl.TypeMap(types)
		lexAndRead(t, impl.TypeNSEC, nm("(")+bits)
	}
	for n := 29980; n <= 30000; n++ {
		lexAndRead(t, impl.TypeCAA, "\x00\x01a"+strings.Repeat("\"", (n-6)/2))
		lexAndRead(t, 99, strings.Repeat("\xab", (n-9)/2))
	}
	for n := range 256 {
		c := string([]byte{byte(n)})
		for _, s := range []string{c, c + "0", c + c, "a" + c + "9", strings.Repeat(c, 60)} {
			lexAndRead(t, impl.TypeTXT, st(s)+st(c))
			lexAndRead(t, impl.TypeHINFO, st(s)+st(""))
			lexAndRead(t, impl.TypeCAA, c+st("tag")+s)
			lexAndRead(t, impl.TypeNAPTR, c+c+c+c+st(s)+st(s)+st(s)+nm(s, s))
			lexAndRead(t, impl.TypeSOA, nm(s)+nm(c)+strings.Repeat(c, 20))
			lexAndRead(t, impl.TypeNS, nm(s, c))
			lexAndRead(t, 99, s)
		}
	}
}

// showAndRead writes records, and reads them as they were, with every origin; it tells whether they could be written.
func showAndRead(t *testing.T, list []impl.RR, origins ...string) bool {
	t.Helper()
	text, code := impl.ShowMaster(list)
	if code == impl.ErrSize {
		return false
	}
	if code != impl.OK || len(text) > 40000 {
		t.Errorf("ShowMaster of %s = %.300q, %d", tellRecords(list), text, code)
		return false
	}
	for _, origin := range append(origins, "", root) {
		checkMaster(t, text, origin, list...)
		// what was written says all itself, whatever directives stand ahead of it
		if ahead := "$TTL 77\n$ORIGIN elsewhere.\n"; len(ahead+text) <= 40000 {
			checkMaster(t, ahead+text, origin, list...)
		}
	}
	return true
}

// P7: lists of any records.
func TestP7(t *testing.T) {
	r := rand.New(rand.NewSource(36))
	written := 0
	for n := range 3000 {
		var list []impl.RR
		for range r.Intn(2 + n%20) {
			rr := zoneRecord(r)
			if text, _ := impl.ShowData(rr.Type, rr.Data); len(cutWords(text)) <= 290 {
				list = append(list, rr)
			}
		}
		if showAndRead(t, list, nm("example"), nameOf(255), anyName(r)) {
			written += len(list)
		}
	}
	if written < 10000 {
		t.Errorf("only %d records were written", written)
	}
}

// P7: every data that the tests of chapter 3 know, and every name as an owner.
func TestP7Data(t *testing.T) {
	for rtype, all := range someData() {
		for _, data := range all {
			text, _ := impl.ShowData(rtype, data)
			if !slices.Contains(zoneTypes(), rtype) || len(text) > 40000 || len(cutWords(text)) > 290 {
				continue
			}
			showAndRead(t, []impl.RR{rrOf(nm("x"), rtype, data), aRecord(root, 0), rrOf(nm("x"), rtype, data)}, nm("o"))
		}
	}
	for _, owner := range someNames() {
		showAndRead(t, []impl.RR{aRecord(owner, 2147483647), aRecord(nm("y"), 0), aRecord(owner, 1)}, nm("o"), nameOf(255))
	}
	for n := range 256 {
		c := string([]byte{byte(n)})
		for _, owner := range []string{nm(c), nm(c + "TTL"), nm("a" + c), nm("a", c, c)} {
			showAndRead(t, []impl.RR{aRecord(owner, 5), rrOf(owner, impl.TypeTXT, st(c)), rrOf(owner, impl.TypePTR, owner)}, nm("o"))
		}
	}
}

// P7: as many records, words and bytes as there may be.
func TestP7Edges(t *testing.T) {
	if !showAndRead(t, nil) || !showAndRead(t, slices.Repeat([]impl.RR{aRecord(nm("x"), 5)}, 500), nm("o")) {
		t.Errorf("500 records were not written")
	}
	for _, n := range []int{1, 289, 290} {
		list := []impl.RR{rrOf(nm("$"), impl.TypeTXT, strings.Repeat("\x01;", n)), rrOf(nm("@"), impl.TypeTXT, strings.Repeat("\x00", n))}
		if !showAndRead(t, list, nm("o")) {
			t.Errorf("data of %d words was not written", n)
		}
	}
	full := impl.RR{Owner: root, Type: impl.TypeCAA, Class: 1, TTL: 5, Data: "\x00\x01a" + strings.Repeat("v", 40000-18)}
	if !showAndRead(t, []impl.RR{full}, nm("o")) {
		t.Errorf("40000 bytes were not written")
	}
}
