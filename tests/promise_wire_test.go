package tests

import (
	"bytes"
	"math"
	"math/rand"
	"slices"
	"strings"
	"testing"

	"loop.example/s01858/impl"
)

// callWire calls every function of chapter 5 that reads with some bytes and a place: nothing stands beside a code.
func callWire(t *testing.T, b []byte, at int64) {
	t.Helper()
	name, next, code := impl.DecodeName(b, at)
	if code != impl.OK && (name != "" || next != 0) || code == impl.OK && (!isName(name) || next <= at || next > int64(len(b))) {
		t.Errorf("DecodeName(%.200x, %d) = %.200q, %d, %d", b, at, name, next, code)
	}
	head, counts, code := impl.DecodeHead(b)
	if short := len(b) < 12; short != (code != impl.OK) || short && (code != impl.ErrShort || head != impl.Head{} || counts != [4]int64{}) {
		t.Errorf("DecodeHead(%.200x) = %+v, %d, %d", b, head, counts, code)
	}
	m, code := impl.Decode(b)
	if code != impl.OK && !isZero(m) || code == impl.OK && !isValid(m) {
		t.Errorf("Decode(%.200x) = %+v, %d", b, m, code)
	}
}

// callWrite calls every function of chapter 5 that writes with a message.
func callWrite(t *testing.T, m impl.Message) {
	t.Helper()
	b, code := impl.Encode(m)
	size, sizeCode := impl.MessageSize(m)
	valid := isValid(m)
	if valid != (code != impl.ErrForm) || valid != (sizeCode == impl.OK) || !valid && (size != 0 || sizeCode != impl.ErrForm) {
		t.Errorf("valid is %t, Encode's code %d, MessageSize %d, %d", valid, code, size, sizeCode)
	}
	if code != impl.OK && len(b) > 0 || code == impl.OK && int64(len(b)) != size || valid && (code == impl.ErrSize) != (size > 65535) {
		t.Errorf("Encode = %.200x, %d, MessageSize = %d, %d", b, code, size, sizeCode)
	}
}

// P1: no call panics, and every call ends.
func TestP1WireReads(t *testing.T) {
	places := []int64{0, 1, -1, 11, 12, 13, 65535, 65536, math.MaxInt64, math.MinInt64}
	var list []string
	list = append(list, noNames()...)
	for c := range 256 {
		b := string([]byte{byte(c)})
		list = append(list, b, strings.Repeat(b, 11), strings.Repeat(b, 12), strings.Repeat(b, 13), strings.Repeat(b, 600), hd(1, 1, 1, 1)+strings.Repeat(b, 600))
	}
	for _, b := range list {
		for _, at := range append(places, int64(len(b)), int64(len(b)+1), int64(len(b)-1)) {
			callWire(t, []byte(b), at)
		}
	}
	callWire(t, nil, 0)
	r := rand.New(rand.NewSource(21))
	for range 30000 {
		b := make([]byte, r.Intn(80))
		for i := range b {
			b[i] = "\x00\x00\x00\x01\x01\x02\x05\x06\x0c\x0f\x3f\x40\xc0\xc0\xff"[r.Intn(15)]
		}
		callWire(t, b, int64(r.Intn(82)-1))
	}
}

// P1: calls with much end, too: long chains of pointers, from every name that a message may have.
func TestP1WireMuch(t *testing.T) {
	for _, b := range []string{strings.Repeat("\x01a", 4000000), strings.Repeat("\xc0\x0c", 4000000), strings.Repeat("\xff", 8000000), strings.Repeat("\x00", 8000000)} {
		callWire(t, []byte(b), int64(len(b)/2))
	}
	chain, at := root, 23
	for 23+len(chain) <= 16381 {
		here := 23 + len(chain)
		chain += ptr(at)
		at = here
	}
	b := hd(0, 400) + rec(root, 99, chain)
	want := []impl.RR{rrOf(root, 99, chain)}
	for range 399 {
		b += rec(ptr(at), impl.TypeSOA, ptr(at)+ptr(at)+soaTail)
		want = append(want, rrOf(root, impl.TypeSOA, root+root+soaTail))
	}
	checkDecode(t, "chains", b, answers(want...))
	huge := strings.Repeat("\x01a", 4000000)
	callWrite(t, impl.Message{Questions: make([]impl.Question, 1000000)})
	callWrite(t, impl.Message{Extra: make([]impl.RR, 1000000)})
	callWrite(t, impl.Message{Questions: []impl.Question{{Name: huge}}})
	callWrite(t, answers(rrOf(huge, 2, huge)))
	callWrite(t, answers(rrOf(root, 2, huge)))
}

// P1: messages of any fields are written, or refused.
func TestP1WireWrites(t *testing.T) {
	r := rand.New(rand.NewSource(22))
	numbers := []int64{0, 1, -1, 15, 16, 65535, 65536, 4294967295, 4294967296, math.MaxInt64, math.MinInt64}
	names, none := someNames(), noNames()[:20]
	for n := range 20000 {
		m := someMessage(r, 3)
		odd := func() int64 { return numbers[r.Intn(len(numbers))] }
		name := names[r.Intn(len(names))]
		if n%2 == 0 {
			name = none[r.Intn(len(none))]
		}
		switch r.Intn(6) {
		case 0:
			m.Head.ID = odd()
		case 1:
			m.Head.Op = odd()
		case 2:
			m.Head.Code = odd()
		case 3:
			m.Questions = append(m.Questions, impl.Question{Name: name, Type: odd(), Class: odd()})
		case 4:
			m.Answer = append(m.Answer, impl.RR{Owner: name, Type: odd(), Class: odd(), TTL: odd()})
		case 5:
			m.Extra = append(m.Extra, impl.RR{Owner: nm("a"), Type: formTypes()[r.Intn(14)], Data: name})
		}
		callWrite(t, m)
	}
}

// P1: nothing is written into an argument, nor behind it into memory that belongs to its owner.
func TestP1WireLeavesArguments(t *testing.T) {
	r := rand.New(rand.NewSource(23))
	for range 300 {
		m := someMessage(r, 4)
		spareQ := append(slices.Clone(m.Questions), impl.Question{Name: "left"})
		m.Questions = spareQ[:len(spareQ)-1]
		var spares [][]impl.RR
		for _, list := range recordLists(&m) {
			spare := append(slices.Clone(*list), impl.RR{Owner: "left"})
			spares = append(spares, spare)
			*list = spare[:len(spare)-1]
		}
		beforeQ := slices.Clone(spareQ)
		var before [][]impl.RR
		for _, spare := range spares {
			before = append(before, slices.Clone(spare))
		}
		b, code := impl.Encode(m)
		impl.MessageSize(m)
		if code != impl.OK || !slices.Equal(spareQ, beforeQ) {
			t.Errorf("Encode = %d, made %v of %v", code, spareQ, beforeQ)
		}
		for i := range spares {
			if !slices.Equal(spares[i], before[i]) {
				t.Errorf("Encode made %v of %v", spares[i], before[i])
			}
		}
		all := append(slices.Clone(b), "left alone"...)
		for _, n := range []int{len(b), len(b) / 2, 5} {
			kept := slices.Clone(all)
			impl.Decode(all[:n])
			impl.DecodeHead(all[:n])
			impl.DecodeName(all[:n], min(12, int64(n)))
			if !bytes.Equal(all, kept) {
				t.Errorf("Decode made %x of %x", all, kept)
			}
		}
	}
}

// P1: an answer is new memory: it stays as it was, whatever becomes of the argument or of another answer.
func TestP1WireIsNew(t *testing.T) {
	r := rand.New(rand.NewSource(24))
	for range 300 {
		m := someMessage(r, 4)
		b, _ := impl.Encode(m)
		kept := slices.Clone(b)
		other, _ := impl.Encode(m)
		got, code := impl.Decode(b)
		again, _ := impl.Decode(b)
		name, _, nameCode := impl.DecodeName(append([]byte("\x01n\x00"), b...), 0)
		for i := range b {
			b[i] ^= 0xff
		}
		_ = append(b[:len(b)-1], "spoilt"...)
		if code != impl.OK || !sameMessage(got, m) || !bytes.Equal(other, kept) || name != nm("n") || nameCode != impl.OK {
			t.Fatalf("an answer changed with its bytes: %+v, %d, %x", got, code, other)
		}
		for i, list := range recordLists(&got) {
			for k := range *list {
				(*list)[k] = impl.RR{Owner: "spoilt"}
			}
			_ = append(*list, impl.RR{Owner: "spoilt"})
			for k, rest := range recordLists(&got) {
				if k > i && !slices.Equal(*rest, *recordLists(&m)[k]) {
					t.Fatalf("two lists of an answer share memory")
				}
			}
		}
		_ = append(got.Questions, impl.Question{Name: "spoilt"})
		if !sameMessage(again, m) {
			t.Fatalf("two answers of Decode share memory")
		}
	}
}

// P1: the bytes to read are the argument's alone.
func TestP1WireNameIsNew(t *testing.T) {
	b := []byte(nm("www", "example") + "\x03ftp" + ptr(4))
	name, next, code := impl.DecodeName(b, 13)
	clear(b)
	if name != nm("ftp", "example") || next != 19 || code != impl.OK {
		t.Errorf("DecodeName's answer became %q, %d, %d", name, next, code)
	}
}

// writeAndReadMessage writes a valid message, reads it again and counts its bytes; it tells how many were saved.
func writeAndReadMessage(t *testing.T, m impl.Message) int {
	t.Helper()
	b, code := impl.Encode(m)
	size, sizeCode := impl.MessageSize(m)
	whole := layMessage(m, true)
	if code == impl.ErrSize && sizeCode == impl.OK && size > 65535 && size <= int64(len(whole)) {
		return 0
	}
	if code != impl.OK || sizeCode != impl.OK || size != int64(len(b)) || len(b) > len(whole) || len(b) > 65535 {
		t.Errorf("Encode has %d bytes, %d, MessageSize is %d, %d; without pointers it is %d", len(b), code, size, sizeCode, len(whole))
		return 0
	}
	if got, code := impl.Decode(b); code != impl.OK || !sameMessage(got, m) {
		t.Errorf("%+v is written as %.300x and read as %+v, %d", m, b, got, code)
	}
	if len(whole) <= 65535 {
		if got, code := impl.Decode([]byte(whole)); code != impl.OK || !sameMessage(got, m) {
			t.Errorf("without pointers %.300x is read as %+v, %d", whole, got, code)
		}
	}
	if laid := layMessage(m, false); laid != string(b) {
		t.Errorf("Encode(%+v) = %.600x, want %.600x", m, b, laid)
	}
	return len(whole) - len(b)
}

// P5: arbitrary valid messages with names that end alike.
func TestP5Messages(t *testing.T) {
	r := rand.New(rand.NewSource(25))
	saved := 0
	for n := range 3000 {
		saved += writeAndReadMessage(t, someMessage(r, 1+n%9))
	}
	if saved < 100000 {
		t.Errorf("only %d bytes were saved by pointers", saved)
	}
	for range 10 {
		writeAndReadMessage(t, someMessage(r, 100))
	}
}

// P5: messages of one kind of record each, with every data that the tests of chapter 3 know.
func TestP5Data(t *testing.T) {
	for rtype, list := range someData() {
		for _, data := range list {
			for _, owner := range []string{root, nm("www", "Example"), nameOf(255)} {
				m := answers(rrOf(owner, rtype, data), rrOf(owner, rtype, data), rrOf(nm("x"), rtype, ""))
				m.Authority = []impl.RR{rrOf(owner, impl.TypeNS, nm("example"))}
				writeAndReadMessage(t, m)
			}
		}
	}
}

// P5: names on both sides of the last place that pointers lead to.
func TestP5FarNames(t *testing.T) {
	r := rand.New(rand.NewSource(26))
	for pad := 16383 - 23 - 60; pad <= 16383-23+20; pad++ {
		m := someMessage(r, 9)
		m.Questions = nil
		m.Answer = append([]impl.RR{rrOf(root, 99, strings.Repeat("p", pad))}, m.Answer...)
		for range 8 {
			m.Extra = append(m.Extra, rrOf(tailName(r), impl.TypeNS, tailName(r)))
		}
		writeAndReadMessage(t, m)
	}
}

// P5: as many entries as there may be, of long names that have all in common, or nothing.
func TestP5ManyEntries(t *testing.T) {
	var m impl.Message
	for n := range 400 {
		long := nm(itoa(n), strings.Repeat("l", 60), strings.Repeat("m", 60), strings.Repeat("n", 60))
		m.Questions = append(m.Questions, impl.Question{Name: long, Type: int64(n)})
	}
	if saved := writeAndReadMessage(t, m); saved < 60000 {
		t.Errorf("only %d bytes were saved", saved)
	}
	for n := range m.Questions {
		m.Questions[n].Name = nm(strings.Repeat("q", 60) + itoa(n))
	}
	if saved := writeAndReadMessage(t, m); saved != 0 {
		t.Errorf("%d bytes were saved where there is nothing to save", saved)
	}
}

// readAndWrite reads bytes; what is taken must be valid, and written and read again the same. It tells the code.
func readAndWrite(t *testing.T, b []byte) int64 {
	t.Helper()
	m, code := impl.Decode(b)
	want, wantCode := messageOf(string(b))
	if code != wantCode || !sameMessage(m, want) {
		t.Errorf("Decode(%.300x) = %+v, %d, want %+v, %d", b, m, code, want, wantCode)
	}
	if code != impl.OK {
		return code
	}
	out, outCode := impl.Encode(m)
	size, sizeCode := impl.MessageSize(m)
	if !isValid(m) || sizeCode != impl.OK {
		t.Errorf("Decode(%.300x) = %+v, which is not valid", b, m)
	}
	if outCode == impl.ErrSize && size > 65535 {
		return code
	}
	again, againCode := impl.Decode(out)
	if outCode != impl.OK || againCode != impl.OK || !sameMessage(again, m) {
		t.Errorf("%.300x is read as %+v, written as %.300x, %d and read as %+v, %d", b, m, out, outCode, again, againCode)
	}
	return code
}

// someBytes makes bytes of which many are 0.
func someBytes(r *rand.Rand, n int) []byte {
	b := make([]byte, n)
	for i := range b {
		b[i] = "\x00\x00\x00\x00\x00\x01\x01\x02\x03\x05\x0c\xc0\xc0"[r.Intn(13)]
	}
	return b
}

// P6: arbitrary bytes.
func TestP6Arbitrary(t *testing.T) {
	r := rand.New(rand.NewSource(27))
	taken := 0
	for n := range 40000 {
		// any bytes; any behind a head; just as many as a question, or a record, of some of them may have
		b := make([]byte, r.Intn(60))
		r.Read(b)
		switch n % 4 {
		case 1:
			b = append([]byte(hd(int64(r.Intn(2)), int64(r.Intn(2)), int64(r.Intn(2)), int64(r.Intn(2)))), b...)
		case 2:
			b = append([]byte(hd(1)), someBytes(r, 4+r.Intn(9))...)
		case 3:
			b = append([]byte(hd(0, 1)), someBytes(r, 11+r.Intn(20))...)
		}
		if readAndWrite(t, b) == impl.OK {
			taken++
		}
	}
	if taken < 100 {
		t.Errorf("only %d arbitrary messages were taken", taken)
	}
}

// bent is good bytes with some turned, cut out or put in.
func bent(r *rand.Rand, b []byte) []byte {
	b = slices.Clone(b)
	for range 1 + r.Intn(3) {
		if len(b) < 2 {
			break
		}
		at := r.Intn(len(b))
		switch r.Intn(6) {
		case 0:
			b[at] ^= 1 << r.Intn(8)
		case 1:
			b[at] = byte(r.Intn(256))
		case 2:
			b[at]++
		case 3:
			b = slices.Delete(b, at, min(len(b), at+1+r.Intn(3)))
		case 4:
			b = slices.Insert(b, at, byte(r.Intn(256)))
		case 5:
			copy(b[at:], ptr(r.Intn(len(b)+2)))
		}
	}
	return b
}

// P6: good messages, and such with bytes turned, cut out and put in.
func TestP6Bent(t *testing.T) {
	r := rand.New(rand.NewSource(28))
	seen := map[int64]int{}
	for range 1500 {
		m := someMessage(r, 3)
		good, _ := impl.Encode(m)
		if code := readAndWrite(t, good); code != impl.OK {
			t.Errorf("Decode(%x) = %d", good, code)
		}
		for range 20 {
			seen[readAndWrite(t, bent(r, good))]++
		}
		whole := []byte(layMessage(m, true))
		seen[readAndWrite(t, bent(r, whole))]++
	}
	for _, code := range []int64{impl.OK, impl.ErrShort, impl.ErrLabel, impl.ErrPointer, impl.ErrData, impl.ErrTrail, impl.ErrCount} {
		if seen[code] < 20 {
			t.Errorf("the code %d came up only %d times", code, seen[code])
		}
	}
}

// P6: a message cut at every place, and with every byte turned.
func TestP6EveryPlace(t *testing.T) {
	r := rand.New(rand.NewSource(29))
	for range 4 {
		good, _ := impl.Encode(someMessage(r, 2))
		for at := range good {
			readAndWrite(t, good[:at])
			for _, c := range []byte{0, 1, 2, 0x3f, 0x40, 0xbf, 0xc0, 0xff, good[at] + 1, good[at] ^ 0x80} {
				b := slices.Clone(good)
				b[at] = c
				readAndWrite(t, b)
			}
		}
	}
}

// P6: what is taken may be too much to write, as no pointer leads to a name that stands in data of any bytes.
func TestP6DoesNotFit(t *testing.T) {
	name := nameOf(255)
	// the name stands in the data of the first record, at 23; all others begin behind the last place to lead to
	b := hd(0, 400) + rec(root, 99, name+strings.Repeat("d", 17000))
	for range 399 {
		b += rec(ptr(23), impl.TypeNS, ptr(23))
	}
	m, code := impl.Decode([]byte(b))
	if code != impl.OK || len(m.Answer) != 400 || m.Answer[399] != rrOf(name, impl.TypeNS, name) {
		t.Fatalf("Decode = %d records, %d", len(m.Answer), code)
	}
	checkTooBig(t, "names that are led to by nothing", m, int64(12+11+255+17000+399*(255+10+255)))
	readAndWrite(t, []byte(b))
	near := hd(0, 400) + rec(root, 99, name)
	for range 399 {
		near += rec(ptr(23), impl.TypeNS, ptr(23))
	}
	if code := readAndWrite(t, []byte(near)); code != impl.OK {
		t.Errorf("Decode = %d", code)
	}
}
