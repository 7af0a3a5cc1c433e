package tests

import (
	"strings"
	"testing"

	"loop.example/s01858/impl"
)

// checkDecode reads bytes and holds what is read against the message that is wanted.
func checkDecode(t *testing.T, what, b string, want impl.Message) {
	t.Helper()
	if got, code := impl.Decode([]byte(b)); code != impl.OK || !sameMessage(got, want) {
		t.Errorf("%s: Decode(%.300x) = %+v, %d, want %+v", what, b, got, code, want)
	}
}

// checkRefused reads bytes that must be refused with a code, and nothing beside it.
func checkRefused(t *testing.T, what, b string, want int64) {
	t.Helper()
	if got, code := impl.Decode([]byte(b)); code != want || !isZero(got) {
		t.Errorf("%s: Decode(%.300x) = %+v, %d, want the code %d", what, b, got, code, want)
	}
}

func TestDecodeQuestions(t *testing.T) {
	www := nm("www", "example")
	for _, c := range []struct {
		b    string
		want []impl.Question
	}{
		{hd(), nil},
		{hd(1) + qu(www, 1, 1), []impl.Question{{Name: www, Type: 1, Class: 1}}},
		{hd(1) + qu(root, 0, 0), []impl.Question{{Name: root}}},
		{hd(1) + qu(root, 65535, 65535), []impl.Question{{Name: root, Type: 65535, Class: 65535}}},
		{hd(1) + qu(root, 0x1234, 0x5678), []impl.Question{{Name: root, Type: 0x1234, Class: 0x5678}}},
		{hd(2) + qu(www, 1, 1) + qu(ptr(12), 2, 3), []impl.Question{{Name: www, Type: 1, Class: 1}, {Name: www, Type: 2, Class: 3}}},
		{hd(2) + qu(www, 1, 1) + qu("\x03ftp"+ptr(16), 2, 3), []impl.Question{{Name: www, Type: 1, Class: 1}, {Name: nm("ftp", "example"), Type: 2, Class: 3}}},
		// into the head: its ID is the bytes 0 and 1
		{hd(1) + qu(ptr(0), 1, 1), []impl.Question{{Name: root, Type: 1, Class: 1}}},
	} {
		checkDecode(t, "questions", c.b, impl.Message{Head: impl.Head{ID: 1}, Questions: c.want})
	}
}

// Each list has its records, in their order, and none of another.
func TestDecodeLists(t *testing.T) {
	a := func(n byte) string { return string([]byte{192, 0, 2, n}) }
	for i := range 3 {
		counts := make([]int64, 4)
		counts[1+i] = 2
		want := impl.Message{Head: impl.Head{ID: 1}}
		*recordLists(&want)[i] = []impl.RR{rrOf(nm("x"), impl.TypeA, a(1)), rrOf(nm("y"), impl.TypeA, a(2))}
		checkDecode(t, "one list", hd(counts...)+rec(nm("x"), impl.TypeA, a(1))+rec(nm("y"), impl.TypeA, a(2)), want)
	}
	b := hd(1, 2, 1, 3) + qu(nm("q"), 1, 1)
	for n := range byte(6) {
		b += rec(nm("x"), impl.TypeA, a(n))
	}
	rr := func(n byte) impl.RR { return rrOf(nm("x"), impl.TypeA, a(n)) }
	checkDecode(t, "all lists", b, impl.Message{
		Head: impl.Head{ID: 1}, Questions: []impl.Question{{Name: nm("q"), Type: 1, Class: 1}},
		Answer: []impl.RR{rr(0), rr(1)}, Authority: []impl.RR{rr(2)}, Extra: []impl.RR{rr(3), rr(4), rr(5)},
	})
}

func TestDecodeRecordNumbers(t *testing.T) {
	for _, ttl := range []int64{0, 1, 255, 256, 65536, 0x01020304, 2147483647, 2147483648, 4294967295} {
		for _, n := range []int64{0, 99, 0x1234, 65535} {
			b := hd(0, 1) + nm("o") + be(n, 2) + be(65535-n, 2) + be(ttl, 4) + "\x00\x03xyz"
			checkDecode(t, "numbers", b, answers(impl.RR{Owner: nm("o"), Type: n, Class: 65535 - n, TTL: ttl, Data: "xyz"}))
		}
	}
}

// Names in the data of the five types: whole, ended by a pointer, and a pointer alone.
func TestDecodeDataNames(t *testing.T) {
	// the owner "h.example" stands at 12, "example" at 14, the root at 22; the data begins at 33
	owner := nm("h", "example")
	for _, rtype := range pointTypes() {
		ahead, behind := "", ""
		if rtype == impl.TypeMX {
			ahead = "\x00\x0a"
		}
		if rtype == impl.TypeSOA {
			behind = soaTail
		}
		for raw, name := range map[string]string{
			nm("ns", "example"):    nm("ns", "example"),
			root:                   root,
			ptr(12):                owner,
			ptr(14):                nm("example"),
			ptr(22):                root,
			"\x02ns" + ptr(14):     nm("ns", "example"),
			"\x02NS" + ptr(22):     nm("NS"),
			"\x01a\x01b" + ptr(12): nm("a", "b", "h", "example"),
			nameOf(255):            nameOf(255),
		} {
			data, want := ahead+raw+behind, ahead+name+behind
			if rtype == impl.TypeSOA {
				// the second name points to the first, of which it is a stretch further on
				data, want = raw+"\x02ad"+ptr(33)+behind, name+nm("ad")[:3]+name+behind
			}
			if rtype == impl.TypeSOA && raw == nameOf(255) {
				data, want = raw+ptr(33)+behind, name+name+behind
			}
			checkDecode(t, "names in data", hd(0, 1)+rec(owner, rtype, data), answers(rrOf(owner, rtype, want)))
			next := rec(ptr(12), impl.TypeA, "ABCD")
			checkDecode(t, "and a record behind", hd(0, 2)+rec(owner, rtype, data)+next, answers(rrOf(owner, rtype, want), rrOf(owner, impl.TypeA, "ABCD")))
		}
	}
}

// The data of all other types has no pointers: names stand whole, or it is no data at all.
func TestDecodeOtherData(t *testing.T) {
	owner := nm("h", "example")
	for rtype, list := range someData() {
		for _, data := range list {
			if len(data) <= 65535-33 {
				checkDecode(t, "data", hd(0, 1)+rec(owner, rtype, data), answers(rrOf(owner, rtype, data)))
			}
		}
	}
	for rtype, data := range map[int64]string{
		impl.TypeDNAME: ptr(12),
		impl.TypeSRV:   "\x00\x01\x00\x02\x00\x03" + ptr(12),
		impl.TypeNAPTR: "\x00\x01\x00\x02\x00\x00\x00" + ptr(12),
		impl.TypeNSEC:  ptr(12) + "\x00\x01\x40",
	} {
		checkRefused(t, "a pointer", hd(0, 1)+rec(owner, rtype, data), impl.ErrData)
	}
	for _, rtype := range freeTypes() {
		checkDecode(t, "bytes", hd(0, 1)+rec(owner, rtype, ptr(12)), answers(rrOf(owner, rtype, ptr(12))))
	}
}

// A record of 0 bytes of data has empty Data, of whatever type.
func TestDecodeNoData(t *testing.T) {
	for _, rtype := range append(formTypes(), freeTypes()...) {
		checkDecode(t, "no data", hd(0, 1)+rec(nm("o"), rtype, ""), answers(rrOf(nm("o"), rtype, "")))
		checkDecode(t, "no data, and a record", hd(0, 2)+rec(nm("o"), rtype, "")+rec(nm("p"), 99, "x"), answers(rrOf(nm("o"), rtype, ""), rrOf(nm("p"), 99, "x")))
		checkRefused(t, "no data, and a byte", hd(0, 1)+rec(nm("o"), rtype, "")+root, impl.ErrTrail)
	}
}

// Names in data: where they may end, and what is told of those that can't be read.
func TestDecodeDataFaults(t *testing.T) {
	ns, mx, soa := int64(impl.TypeNS), int64(impl.TypeMX), int64(impl.TypeSOA)
	long := strings.Repeat("n", 63)
	tooLong := strings.TrimSuffix(nm(long, long, long, long), root)
	for _, c := range []struct {
		what  string
		rtype int64
		size  int
		data  string
		want  int64
	}{
		{"ends just with the data", ns, 3, nm("a"), impl.OK},
		{"a byte of the data is left", ns, 4, nm("a") + "x", impl.ErrData},
		{"a byte 0 of the data is left", ns, 4, nm("a") + root, impl.ErrData},
		{"the byte 0 is behind the data", ns, 2, nm("a"), impl.ErrData},
		{"a label is partly behind the data", ns, 1, nm("a"), impl.ErrData},
		{"ends just with the data, by a pointer", ns, 2, ptr(12), impl.OK},
		{"a pointer's second byte is behind the data", ns, 1, ptr(12), impl.ErrData},
		{"a byte is left behind a pointer", ns, 3, ptr(12) + "x", impl.ErrData},
		{"two pointers", ns, 4, ptr(12) + ptr(12), impl.ErrData},
		{"the message ends within a label", ns, 2, "\x02a", impl.ErrShort},
		{"the message ends behind a label", ns, 2, "\x01a", impl.ErrShort},
		{"the message ends within a pointer", ns, 1, "\xc0", impl.ErrShort},
		{"a byte from 64 to 191", ns, 3, "\x01a\x40", impl.ErrLabel},
		{"such a byte behind the data", ns, 2, "\x01a\xbf", impl.ErrLabel},
		{"a pointer to its own place", ns, 2, ptr(25), impl.ErrPointer},
		{"a pointer to the record's own type", ns, 2, ptr(15), impl.OK},
		{"a long name", ns, len(tooLong), tooLong, impl.ErrLong},
		{"a name of 256 bytes", ns, 256, nameOf(256), impl.ErrLong},
		{"a long name that would end behind the data", ns, 9, tooLong + root, impl.ErrLong},
		{"more data than the message has", ns, 4, nm("a"), impl.ErrShort},
		{"more data than the message has, with an ill name", ns, 4, "\x40aa", impl.ErrShort},
		{"more data than the message has, of another type", impl.TypeA, 5, "ABCD", impl.ErrShort},
		{"an MX", mx, 5, "\x00\x01" + nm("a"), impl.OK},
		{"an MX of one byte", mx, 1, "\x00", impl.ErrData},
		{"an MX of one byte, and a name behind", mx, 1, "\x00\x01" + nm("a"), impl.ErrData},
		{"an MX without its name, which stands behind", mx, 2, "\x00\x01" + nm("a"), impl.ErrData},
		{"an MX without a name", mx, 2, "\x00\x01", impl.ErrShort},
		{"an MX that ends within its name", mx, 4, "\x00\x01" + nm("a"), impl.ErrData},
		{"an MX with a byte too many", mx, 6, "\x00\x01" + nm("a") + "x", impl.ErrData},
		{"an MX with an ill name", mx, 5, "\x00\x01\x80a\x00", impl.ErrLabel},
		{"an SOA", soa, 22, root + root + soaTail, impl.OK},
		{"an SOA with 19 bytes of numbers", soa, 21, root + root + soaTail[:19], impl.ErrData},
		{"an SOA with 21 bytes of numbers", soa, 23, root + root + soaTail + "x", impl.ErrData},
		{"an SOA without numbers", soa, 2, root + root, impl.ErrData},
		{"an SOA whose second name stands behind the data", soa, 1, root + root + soaTail, impl.ErrData},
		{"an SOA whose second name ends behind the data", soa, 2, root + nm("a") + soaTail, impl.ErrData},
		{"an SOA whose second name is ill", soa, 22, root + "\x40" + soaTail, impl.ErrLabel},
		{"an SOA whose first name is ill, and the second in another way", soa, 22, "\x40" + ptr(400) + soaTail[:19], impl.ErrLabel},
		{"an SOA with a pointer to its own first name", soa, 23, root + ptr(25) + soaTail, impl.OK},
		{"an SOA with a pointer to its own second name", soa, 23, root + ptr(26) + soaTail, impl.ErrPointer},
		{"a short A", impl.TypeA, 3, "ABC", impl.ErrData},
		{"a long A", impl.TypeA, 5, "ABCDE", impl.ErrData},
		{"an ill TXT", impl.TypeTXT, 2, "\x02a", impl.ErrData},
		{"an ill CAA", impl.TypeCAA, 3, "\x00\x01-", impl.ErrData},
	} {
		// the owner stands at 12, the data begins at 25
		b := hd(0, 1) + recOf(nm("o"), c.rtype, c.size, c.data)
		if c.want != impl.OK {
			checkRefused(t, c.what, b, c.want)
		} else if _, code := impl.Decode([]byte(b)); code != impl.OK {
			t.Errorf("%s: Decode(%x) = %d", c.what, b, code)
		}
	}
}

// Data that is not of its type's form is refused, whatever the type.
func TestDecodeIllData(t *testing.T) {
	for _, rtype := range formTypes() {
		for _, data := range []string{"\x03ab", "\xff\xff\xff\xff\xff", "\x3f", "\x00\x00\x00\x00\x00\x00\x00\x00\x40", "\x01a\x00\x00\x00"} {
			b := hd(0, 1) + rec(root, rtype, data)
			want, code := messageOf(b)
			if got, gotCode := impl.Decode([]byte(b)); gotCode != code || !sameMessage(got, want) {
				t.Errorf("Decode of type %d, %q = %+v, %d, want %d", rtype, data, got, gotCode, code)
			}
		}
	}
}

func TestDecodeCounts(t *testing.T) {
	entries := func(counts ...int64) string {
		b := hd(counts...) + strings.Repeat(qu(root, 1, 1), int(counts[0]))
		for _, n := range counts[1:] {
			b += strings.Repeat(rec(root, 99, ""), int(n))
		}
		return b
	}
	for _, counts := range [][]int64{{400, 0, 0, 0}, {0, 400, 0, 0}, {0, 0, 400, 0}, {0, 0, 0, 400}, {100, 100, 100, 100}, {1, 399, 0, 0}, {0, 0, 1, 399}} {
		m, code := impl.Decode([]byte(entries(counts...)))
		if code != impl.OK || int64(len(m.Questions)) != counts[0] || int64(len(m.Answer)) != counts[1] || int64(len(m.Authority)) != counts[2] || int64(len(m.Extra)) != counts[3] {
			t.Errorf("of %d there are %d, %d, %d, %d, code %d", counts, len(m.Questions), len(m.Answer), len(m.Authority), len(m.Extra), code)
		}
		checkRefused(t, "as many, but none there", hd(counts...), impl.ErrShort)
		for i := range counts {
			counts[i]++
			checkRefused(t, "one more", entries(counts...), impl.ErrCount)
			checkRefused(t, "one more, but none there", hd(counts...), impl.ErrCount)
			counts[i]--
		}
	}
	for _, counts := range [][]int64{{65535, 65535, 65535, 65535}, {65535}, {0, 65535}, {0, 0, 65535}, {0, 0, 0, 65535}, {65535, 1}, {32768, 32768}} {
		checkRefused(t, "many", hd(counts...), impl.ErrCount)
		checkRefused(t, "many", hd(counts...)+"x", impl.ErrCount)
	}
}

func TestDecodeSize(t *testing.T) {
	data := strings.Repeat("d", 65535-23)
	full := hd(0, 1) + rec(root, 99, data)
	if len(full) != 65535 {
		t.Fatalf("the message has %d bytes", len(full))
	}
	checkDecode(t, "65535 bytes", full, answers(rrOf(root, 99, data)))
	checkRefused(t, "a byte behind", full+"x", impl.ErrSize)
	checkRefused(t, "65536 bytes", hd(0, 1)+rec(root, 99, data+"d"), impl.ErrSize)
	checkRefused(t, "a good message and much behind it", hd()+strings.Repeat("x", 65536-12), impl.ErrSize)
	checkRefused(t, "a good message and somewhat less behind it", hd()+strings.Repeat("x", 65535-12), impl.ErrTrail)
	checkRefused(t, "too many bytes and counts", hd(401)+strings.Repeat("x", 65536-12), impl.ErrSize)
	checkRefused(t, "too many bytes, ill ones", hd(1)+strings.Repeat("\x40", 65536-12), impl.ErrSize)
	checkRefused(t, "as many bytes, ill ones", hd(1)+strings.Repeat("\x40", 65535-12), impl.ErrLabel)
}

// The first fault from the left is told, whatever is behind it.
func TestDecodeFirstFault(t *testing.T) {
	good := rec(nm("g"), impl.TypeNS, nm("ns"))
	faults := []struct {
		what, b string
		want    int64
	}{
		{"an ill label", "\x40", impl.ErrLabel},
		{"an ill pointer", "\xff\xff", impl.ErrPointer},
		{"a long name", nameOf(256), impl.ErrLong},
		{"ill data", rec(nm("o"), impl.TypeA, "x"), impl.ErrData},
		{"ill data with a name", rec(nm("o"), impl.TypeNS, nm("a")+"x"), impl.ErrData},
		{"an ill name in data", rec(nm("o"), impl.TypePTR, "\x40\x00\x00"), impl.ErrLabel},
	}
	for i, first := range faults {
		for _, second := range faults {
			checkRefused(t, first.what+" ahead of "+second.what, hd(0, 1, 1)+first.b+second.b, first.want)
			checkRefused(t, first.what+" ahead of "+second.what, hd(0, 2, 1)+good+first.b+second.b, first.want)
			checkRefused(t, first.what+" ahead of "+second.what, hd(0, 0, 1, 3)+good+good+first.b+second.b, first.want)
		}
		checkRefused(t, first.what+" ahead of what lacks", hd(0, 2)+first.b, first.want)
		checkRefused(t, first.what+" ahead of what is left", hd(0, 1)+first.b+"left", first.want)
		checkRefused(t, first.what+" behind too many", hd(0, 401)+first.b, impl.ErrCount)
		if i < 3 {
			checkRefused(t, first.what+" of a question", hd(1, 1)+first.b+good, first.want)
		}
	}
	checkRefused(t, "a record lacks", hd(0, 2)+good, impl.ErrShort)
	checkRefused(t, "a record is too many", hd(0, 1)+good+good, impl.ErrTrail)
}

// A message cut at any place lacks bytes; with any byte behind it there is one too many.
func TestDecodeCut(t *testing.T) {
	b := hd(2, 2, 1, 2) + qu(nm("www", "example"), 1, 1) + qu(ptr(16), 2, 3) +
		rec(ptr(12), impl.TypeCNAME, "\x03web"+ptr(16)) + rec(nm("web", "example"), impl.TypeA, "ABCD") +
		rec(ptr(16), impl.TypeSOA, nm("ns")+ptr(12)+soaTail) +
		rec(root, impl.TypeOPT, "") + rec(nm("mx"), impl.TypeMX, "\x00\x01"+nm("m")+"")
	if m, code := impl.Decode([]byte(b)); code != impl.OK || len(m.Extra) != 2 {
		t.Fatalf("Decode(%x) = %+v, %d", b, m, code)
	}
	for n := range b {
		checkRefused(t, "cut", b[:n], impl.ErrShort)
	}
	for c := range 256 {
		checkRefused(t, "a byte more", b+string([]byte{byte(c)}), impl.ErrTrail)
	}
	checkRefused(t, "itself once more", b+b, impl.ErrTrail)
	checkRefused(t, "nothing", "", impl.ErrShort)
	if m, code := impl.Decode(nil); code != impl.ErrShort || !isZero(m) {
		t.Errorf("Decode(nil) = %+v, %d", m, code)
	}
}

// The example of chapter 19.
func TestDecodeExample(t *testing.T) {
	www, web := nm("www", "example"), nm("web", "example")
	query := "\x12\x34\x01\x00\x00\x01\x00\x00\x00\x00\x00\x00" + www + "\x00\x01\x00\x01"
	reply := "\x12\x34\x85\x00\x00\x01\x00\x02\x00\x00\x00\x00" + www + "\x00\x01\x00\x01" +
		"\xc0\x0c\x00\x05\x00\x01\x00\x00\x0e\x10\x00\x06\x03web\xc0\x10" + "\xc0\x29\x00\x01\x00\x01\x00\x00\x0e\x10\x00\x04\xc0\x00\x02\x50"
	asked := []impl.Question{{Name: www, Type: impl.TypeA, Class: impl.ClassIN}}
	for b, m := range map[string]impl.Message{
		query: {Head: impl.Head{ID: 0x1234, RD: true}, Questions: asked},
		reply: {Head: impl.Head{ID: 0x1234, QR: true, AA: true, RD: true}, Questions: asked, Answer: []impl.RR{
			rrOf(www, impl.TypeCNAME, web), rrOf(web, impl.TypeA, "\xc0\x00\x02\x50"),
		}},
	} {
		checkDecode(t, "example", b, m)
		if out, code := impl.Encode(m); string(out) != b || code != impl.OK {
			t.Errorf("Encode(%+v) = %x, %d, want %x", m, out, code, b)
		}
	}
}
