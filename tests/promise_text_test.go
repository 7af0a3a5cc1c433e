package tests

import (
	"math"
	"math/rand"
	"slices"
	"strings"
	"testing"

	"loop.example/s01858/impl"
)

// callText calls every function of chapter 4 with some texts, words and a number.
func callText(t *testing.T, a, b string, words []impl.Word, n int64) {
	t.Helper()
	beside := func(call string, answer string, code, want int64) {
		t.Helper()
		if code != impl.OK && (answer != "" || code != want) {
			t.Errorf("%s of %.300q answered %.300q, %d", call, a, answer, code)
		}
	}
	got, code := impl.ReadV4(a)
	beside("ReadV4", got, code, impl.ErrData)
	got, code = impl.ShowV4(a)
	beside("ShowV4", got, code, impl.ErrData)
	got, code = impl.ReadV6(a)
	beside("ReadV6", got, code, impl.ErrData)
	got, code = impl.ShowV6(a)
	beside("ShowV6", got, code, impl.ErrData)
	got, code = impl.ReadText(a)
	beside("ReadText", got, code, impl.ErrEscape)
	if ttl, code := impl.ReadTTL(a); code != impl.OK && (ttl != 0 || code != impl.ErrTTL) || ttl < 0 || ttl > impl.MaxTTL {
		t.Errorf("ReadTTL(%.300q) = %d, %d", a, ttl, code)
	}
	if rtype, code := impl.ReadType(a); code != impl.OK && (rtype != 0 || code != impl.ErrType) || rtype < 0 || rtype > 65535 {
		t.Errorf("ReadType(%.300q) = %d, %d", a, rtype, code)
	}
	if text := impl.ShowType(n); (text == "") != (n < 0 || n > 65535) {
		t.Errorf("ShowType(%d) = %q", n, text)
	}
	if text := impl.ShowText(a); len(text) < len(a)+2 || len(text) > 4*len(a)+2 {
		t.Errorf("ShowText(%.300q) = %.300q", a, text)
	}
	data, code := impl.ReadData(n, words, b)
	if code != impl.OK && data != "" || code == impl.OK && impl.CheckData(n, data) != impl.OK {
		t.Errorf("ReadData(%d, %s, %.300q) = %.300q, %d", n, tellWords(words), b, data, code)
	}
	got, code = impl.ShowData(n, a)
	beside("ShowData", got, code, impl.CheckData(n, a))
}

// oddTexts are texts that each reader of chapter 4 may stumble over.
func oddTexts() []string {
	out := slices.Concat(noNames(), noV4(), noV6(), noTTL(), noTypeTexts())
	return append(out, "\\", "\\#", "\\1", "\\12", "\\999", "@", ".", "1.2.3.4", "::", "::1.2.3.4", "1h", "A", "0", "7", "issue", nm("a"), root,
		nm("a")+root+soaTail, "\x00\x05issue", strings.Repeat("\x00", 16), strings.Repeat("\\", 100001))
}

// P1: no call panics, and every call ends.
func TestP1Text(t *testing.T) {
	texts := oddTexts()
	types := slices.Concat(noTypes(), formTypes(), []int64{0, 99, impl.TypeOPT, impl.TypeANY, 65535})
	for k, a := range texts {
		for i, n := range types {
			words := ws(times(i%9, texts[(k+i)%len(texts)])...)
			callText(t, a, "", words, n)
			callText(t, "", a, words, n)
		}
	}
	r := rand.New(rand.NewSource(14))
	const letters = "0123459afgAFhHsS.:\\\"#@ \x00\x01\xff"
	for range 60000 {
		var s [8]string
		for i := range s {
			b := make([]byte, r.Intn(10))
			for k := range b {
				b[k] = letters[r.Intn(len(letters))]
			}
			s[i] = string(b)
		}
		words := ws(s[:r.Intn(8)]...)
		if r.Intn(3) == 0 && len(words) > 1 {
			words[0], words[1] = impl.Word{Text: "\\#"}, impl.Word{Text: itoa(r.Intn(4))}
		}
		origin := ""
		if r.Intn(4) > 0 {
			origin = nm("example")
		}
		callText(t, s[7], origin, words, types[r.Intn(len(types))])
	}
}

// P1: words that are almost right, of every row, in any number.
func TestP1TextRows(t *testing.T) {
	r := rand.New(rand.NewSource(15))
	kinds := "46nbsltxgr"
	cases := map[byte][]wordCase{}
	for _, kind := range []byte(kinds) {
		cases[kind] = casesOf(kind)
	}
	for _, rtype := range formTypes() {
		row := rowOf(rtype)
		for range 3000 {
			var words []impl.Word
			for i := range row + strings.Repeat("y", r.Intn(3)) {
				kind := kinds[r.Intn(len(kinds))]
				if i < len(row) && r.Intn(8) > 0 {
					kind = row[i]
				}
				words = append(words, cases[kind][r.Intn(len(cases[kind]))].word)
			}
			callText(t, "", nm("example"), words, rtype)
		}
	}
}

// P1: nothing is written into an argument, nor behind it into memory that belongs to its owner.
func TestP1TextLeavesArguments(t *testing.T) {
	for _, c := range []struct {
		rtype int64
		all   []impl.Word
	}{
		{impl.TypeTXT, ws("A\\065", "\"B", "left", "alone")},
		{impl.TypeTXT, ws("A", "\\", "left", "alone")},
		{impl.TypeNSEC, ws("A", "nsec", "left", "alone")},
		{impl.TypeNSEC, ws("A", "foo", "left", "alone")},
		{impl.TypeMX, ws("1", "M", "left", "alone")},
		{impl.TypeHINFO, ws("\"1", "M", "left", "alone")},
		{99, ws("\\#", "0", "left", "alone")},
		{impl.TypeA, ws("\\#", "0", "left", "alone")},
	} {
		before := slices.Clone(c.all)
		impl.ReadData(c.rtype, c.all[:2], nm("example"))
		if !slices.Equal(c.all, before) {
			t.Errorf("ReadData made %s of %s", tellWords(c.all), tellWords(before))
		}
	}
}

// P1: an answer stays as it was, whatever becomes of the words.
func TestP1TextIsNew(t *testing.T) {
	words := ws("ab", "\"cd")
	data, code := impl.ReadData(impl.TypeTXT, words, "")
	words[0], words[1] = impl.Word{Text: "changed"}, impl.Word{}
	if data != st("ab")+st("cd") || code != impl.OK {
		t.Errorf("ReadData's answer became %q, %d", data, code)
	}
}

// P1: calls with much end, too.
func TestP1TextMuch(t *testing.T) {
	for _, huge := range []string{strings.Repeat("1.", 4000000), strings.Repeat("1:", 4000000), strings.Repeat("\\255", 2000000), strings.Repeat("9", 8000000), strings.Repeat("\x01a", 4000000)} {
		callText(t, huge, huge, ws(huge, huge), impl.TypeTXT)
		for _, rtype := range append(formTypes(), 99) {
			for n := range 8 {
				callText(t, "", "", ws(times(n, huge)...), rtype)
			}
		}
		callText(t, "", "", ws("\\#", "4000000", huge), 99)
	}
	callText(t, "", "", make([]impl.Word, 5000000), math.MaxInt64)
}

// writeAndRead writes data as text and reads its words again.
func writeAndRead(t *testing.T, rtype int64, data string) {
	t.Helper()
	text, code := impl.ShowData(rtype, data)
	if code != impl.OK || text == "" {
		t.Errorf("ShowData(%d, %.300q) = %.300q, %d", rtype, data, text, code)
		return
	}
	if len(text) > 150000 {
		return
	}
	words := cutWords(text)
	for _, origin := range []string{"", root, nm("example"), nameOf(255)} {
		back, code := impl.ReadData(rtype, words, origin)
		if len(words) > impl.MaxWords && code != impl.ErrSize || len(words) <= impl.MaxWords && (code != impl.OK || back != data) {
			t.Errorf("%d, %.300q: written as %.300q, read with %.20q as %.300q, %d", rtype, data, text, origin, back, code)
		}
	}
}

// P4: what ShowData writes is the words that ReadData reads.
func TestP4Data(t *testing.T) {
	for rtype, list := range someData() {
		for _, data := range list {
			writeAndRead(t, rtype, data)
		}
	}
	for _, c := range showCases() {
		writeAndRead(t, c.rtype, c.data)
	}
	r := rand.New(rand.NewSource(16))
	for _, rtype := range append(formTypes(), freeTypes()...) {
		for range 400 {
			writeAndRead(t, rtype, someDataOf(r, rtype))
		}
	}
}

// P4: as many words as the promise names, and up to MaxWords; every byte in texts and names.
func TestP4DataEdges(t *testing.T) {
	for _, n := range []int{1, 289, 290, 299, 300, 301} {
		writeAndRead(t, impl.TypeTXT, strings.Repeat("\x01 ", n))
		var types []int64
		for k := range n - 1 {
			types = append(types, int64(k*217))
		}
		bits, _ := impl.TypeMap(types)
		writeAndRead(t, impl.TypeNSEC, root+bits)
	}
	for n := range 256 {
		c := string([]byte{byte(n)})
		for _, s := range []string{c, c + "0", c + c, "a" + c + "9", strings.Repeat(c, 60)} {
			writeAndRead(t, impl.TypeTXT, st(s)+st(c))
			writeAndRead(t, impl.TypeHINFO, st(s)+st(""))
			writeAndRead(t, impl.TypeCAA, c+st("tag")+s)
			writeAndRead(t, impl.TypeNAPTR, c+c+c+c+st(s)+st(s)+st(s)+nm(s, s))
			writeAndRead(t, impl.TypeSOA, nm(s)+nm(c)+strings.Repeat(c, 20))
			writeAndRead(t, impl.TypeMX, c+"\x00"+nm(s))
			writeAndRead(t, 99, s)
		}
	}
}

// P4: a type map written as an NSEC's types is the same map.
func TestP4TypeMaps(t *testing.T) {
	r := rand.New(rand.NewSource(17))
	for range 300 {
		var types []int64
		for range r.Intn(290) {
			types = append(types, int64(r.Intn(1<<(1+r.Intn(16)))))
		}
		bits, code := impl.TypeMap(types)
		if code != impl.OK {
			t.Fatalf("TypeMap(%d) = %d", types, code)
		}
		writeAndRead(t, impl.TypeNSEC, nm("next")+bits)
	}
	for rtype := range int64(65536) {
		bits, _ := impl.TypeMap([]int64{rtype})
		back, code := impl.ReadData(impl.TypeNSEC, ws(".", impl.ShowType(rtype)), "")
		if back != root+bits || code != impl.OK {
			t.Fatalf("the map of the type %d is read as %q, %d", rtype, back, code)
		}
	}
}

// P4: addresses are turned back.
func TestP4Addresses(t *testing.T) {
	r := rand.New(rand.NewSource(18))
	back := func(data string, show, read func(string) (string, int64)) {
		t.Helper()
		text, code := show(data)
		got, readCode := read(text)
		if code != impl.OK || readCode != impl.OK || got != data {
			t.Errorf("%q is written as %q, %d and read as %q, %d", data, text, code, got, readCode)
		}
	}
	for n := range 256 {
		c := byte(n)
		back(string([]byte{c, 0, 255, c}), impl.ShowV4, impl.ReadV4)
		back(string([]byte{0, c, c, 1}), impl.ShowV4, impl.ReadV4)
		var groups []int
		for i := range 8 {
			groups = append(groups, n>>i&1*(0x1a0b>>i))
		}
		back(v6(groups...), impl.ShowV6, impl.ReadV6)
	}
	for range 20000 {
		b := make([]byte, 16)
		for i := range b {
			if r.Intn(2) == 0 {
				b[i] = byte(r.Intn(256))
			}
		}
		back(string(b), impl.ShowV6, impl.ReadV6)
		back(string(b[:4]), impl.ShowV4, impl.ReadV4)
	}
	for _, text := range []string{"0.0.0.0", "192.0.2.1", "255.255.255.255"} {
		data, _ := impl.ReadV4(text)
		if got, _ := impl.ShowV4(data); got != text {
			t.Errorf("%q is read and written as %q", text, got)
		}
	}
	for _, text := range []string{"::", "::1", "1::", "2001:db8::1", "1:2:3:4:5:6:7:8", "0:1:0:1:0:1:0:1"} {
		data, _ := impl.ReadV6(text)
		if got, _ := impl.ShowV6(data); got != text {
			t.Errorf("%q is read and written as %q", text, got)
		}
	}
}

// P4: types and texts are turned back.
func TestP4TypesAndTexts(t *testing.T) {
	for rtype := range int64(65536) {
		text := impl.ShowType(rtype)
		for _, s := range []string{text, strings.ToLower(text)} {
			if got, code := impl.ReadType(s); got != rtype || code != impl.OK {
				t.Errorf("the type %d is written as %q and read as %d, %d", rtype, text, got, code)
			}
		}
	}
	list := []string{""}
	for a := range 256 {
		for b := range 256 {
			list = append(list, string([]byte{byte(a), byte(b)}))
		}
	}
	r := rand.New(rand.NewSource(19))
	for range 3000 {
		list = append(list, someText(r, 300))
	}
	for _, s := range list {
		text := impl.ShowText(s)
		if len(text) < 2 || text[0] != '"' || text[len(text)-1] != '"' {
			t.Fatalf("ShowText(%q) = %q", s, text)
		}
		words := cutWords(text)
		if len(words) != 1 || !words[0].Quoted || words[0].Text != text[1:len(text)-1] {
			t.Errorf("ShowText(%q) = %q is no quoted word", s, text)
		}
		if got, code := impl.ReadText(text[1 : len(text)-1]); got != s || code != impl.OK {
			t.Errorf("%q is written as %q and read as %q, %d", s, text, got, code)
		}
	}
}
