package tests

import (
	"math"
	"math/rand"
	"strings"
	"testing"

	"loop.example/s01858/impl"
)

// checkName reads a name at a place and holds it against what is wanted; beside a code all else must be zero.
func checkName(t *testing.T, b string, at int64, name string, next, code int64) {
	t.Helper()
	gotName, gotNext, gotCode := impl.DecodeName([]byte(b), at)
	if gotName != name || gotNext != next || gotCode != code {
		t.Errorf("DecodeName(%.200q.., %d) = %.200q, %d, %d, want %.200q, %d, %d", b, at, gotName, gotNext, gotCode, name, next, code)
	}
}

func TestDecodeName(t *testing.T) {
	www := nm("www", "example")
	// "a" at 0, "b.a" at 3, "c.b.a" at 7, a bare pointer to the last at 11
	steps := nm("a") + "\x01b" + ptr(0) + "\x01c" + ptr(3) + ptr(7)
	for _, c := range []struct {
		b    string
		at   int64
		name string
		next int64
	}{
		{root, 0, root, 1},
		{"xyz" + root, 3, root, 4},
		{www, 0, www, 13},
		{www, 4, nm("example"), 13},
		{www, 12, root, 13},
		{"head" + www + "behind", 4, www, 17},
		{www + ptr(0), 13, www, 15},
		{www + ptr(4), 13, nm("example"), 15},
		{www + ptr(12), 13, root, 15},
		{www + "\x03ftp" + ptr(4) + "behind", 13, nm("ftp", "example"), 19},
		{www + "\x03ftp" + ptr(12), 13, nm("ftp"), 19},
		{www + "\x03ftp" + ptr(0), 13, nm("ftp", "www", "example"), 19},
		{steps, 3, nm("b", "a"), 7},
		{steps, 5, nm("a"), 7},
		{steps, 7, nm("c", "b", "a"), 11},
		{steps, 9, nm("b", "a"), 11},
		{steps, 11, nm("c", "b", "a"), 13},
		{nm("WwW", "eXaMpLe") + ptr(0), 13, nm("WwW", "eXaMpLe"), 15},
		{nm("\x00\xff\xc0\x00.") + ptr(0), 7, nm("\x00\xff\xc0\x00."), 9},
		// a pointer may lead into a label, and into what is no name's place at all
		{"\x03\x01x\x00" + root + ptr(1), 5, nm("x"), 7},
	} {
		checkName(t, c.b, c.at, c.name, c.next, impl.OK)
	}
}

func TestDecodeNamePlaces(t *testing.T) {
	b := nm("a")
	for _, at := range []int64{-1, -2, 4, 5, math.MinInt64, math.MaxInt64, 1 << 32, -1 << 32} {
		checkName(t, b, at, "", 0, impl.ErrForm)
	}
	checkName(t, b, 0, b, 3, impl.OK)
	checkName(t, b, 2, root, 3, impl.OK)
	checkName(t, b, 3, "", 0, impl.ErrShort)
	checkName(t, "", 0, "", 0, impl.ErrShort)
	checkName(t, "", 1, "", 0, impl.ErrForm)
	checkName(t, "", -1, "", 0, impl.ErrForm)
	if name, next, code := impl.DecodeName(nil, 0); name != "" || next != 0 || code != impl.ErrShort {
		t.Errorf("DecodeName(nil, 0) = %q, %d, %d", name, next, code)
	}
	// a place behind all that pointers reach is as good as any
	far := strings.Repeat("x", 70000)
	checkName(t, far+nm("a"), 70000, nm("a"), 70003, impl.OK)
	checkName(t, nm("b")+far+"\x01a"+ptr(0), 70003, nm("a", "b"), 70007, impl.OK)
}

// Every first byte, with as many bytes behind it as it asks for, with one less, and with none.
func TestDecodeNameFirstByte(t *testing.T) {
	for first := range 256 {
		head := string([]byte{byte(first)})
		ahead := strings.Repeat("\x00", 16384)
		label := strings.Repeat("l", first)
		switch {
		case first == 0:
			checkName(t, head, 0, root, 1, impl.OK)
		case first <= 63:
			checkName(t, head+label+root, 0, nm(label), int64(first+2), impl.OK)
			checkName(t, head+label, 0, "", 0, impl.ErrShort)
			checkName(t, head+label[1:], 0, "", 0, impl.ErrShort)
			checkName(t, head, 0, "", 0, impl.ErrShort)
		case first <= 191:
			checkName(t, head+label+root, 0, "", 0, impl.ErrLabel)
			checkName(t, head, 0, "", 0, impl.ErrLabel)
			checkName(t, "\x01a"+head, 0, "", 0, impl.ErrLabel)
		default:
			checkName(t, ahead+head+"\x00", 16384, root, 16386, impl.OK)
			checkName(t, ahead+head+"\xff", 16384, root, 16386, impl.OK)
			checkName(t, ahead+head, 16384, "", 0, impl.ErrShort)
			checkName(t, head+"\xff", 0, "", 0, impl.ErrPointer)
		}
	}
}

// A pointer leads to just its offset, whichever of its bits are on.
func TestDecodeNameOffsets(t *testing.T) {
	for offset := range 16384 {
		b := []byte(strings.Repeat("\xff", offset) + "\x01t\x00" + ptr(offset))
		name, next, code := impl.DecodeName(b, int64(len(b)-2))
		if name != nm("t") || next != int64(len(b)) || code != impl.OK {
			t.Fatalf("a pointer to %d leads to %q, %d, %d", offset, name, next, code)
		}
	}
}

func TestDecodeNamePointers(t *testing.T) {
	for _, c := range []struct {
		b    string
		at   int64
		name string
		next int64
		code int64
	}{
		// the first stretch begins at 3: one place ahead of it, itself, one behind
		{nm("a") + ptr(2), 3, root, 5, impl.OK},
		{nm("a") + ptr(3), 3, "", 0, impl.ErrPointer},
		{nm("a") + ptr(4), 3, "", 0, impl.ErrPointer},
		{nm("a") + ptr(5) + root, 3, "", 0, impl.ErrPointer},
		{nm("a") + ptr(16383), 3, "", 0, impl.ErrPointer},
		// it still begins at 3 where the pointer stands behind labels
		{nm("a") + "\x01b" + ptr(2), 3, nm("b"), 7, impl.OK},
		{nm("a") + "\x01b" + ptr(3), 3, "", 0, impl.ErrPointer},
		{nm("a") + "\x01b" + ptr(4), 3, "", 0, impl.ErrPointer},
		{nm("a") + "\x01b" + ptr(5), 3, "", 0, impl.ErrPointer},
		{nm("a") + "\x01b\x01c" + ptr(5), 3, "", 0, impl.ErrPointer},
		// but at 5 where the name is read from there
		{nm("a") + "\x01b" + ptr(4), 5, "", 0, impl.ErrLabel},
		{nm("a") + "\x01\x00" + ptr(4), 5, root, 7, impl.OK},
		// the second stretch begins at 3, where its pointer may not lead
		{nm("a") + ptr(2) + ptr(3), 5, root, 7, impl.OK},
		{nm("a") + ptr(3) + ptr(3), 5, "", 0, impl.ErrPointer},
		{nm("a") + ptr(4) + ptr(3), 5, "", 0, impl.ErrPointer},
		{nm("a") + "\x01b" + ptr(3) + ptr(3), 7, "", 0, impl.ErrPointer},
		{nm("a") + "\x01b" + ptr(2) + ptr(3), 7, nm("b"), 9, impl.OK},
		// two that lead to each other
		{ptr(2) + ptr(0), 2, "", 0, impl.ErrPointer},
		{ptr(2) + ptr(0), 0, "", 0, impl.ErrPointer},
		// at the front nothing is further back
		{ptr(0), 0, "", 0, impl.ErrPointer},
		{"\x01a" + ptr(0), 0, "", 0, impl.ErrPointer},
		{"\x00" + ptr(0), 1, root, 3, impl.OK},
		// what a pointer leads to is read by the same rules
		{"\x40" + ptr(0), 1, "", 0, impl.ErrLabel},
		{"\xbf" + ptr(0), 1, "", 0, impl.ErrLabel},
		{"\x05" + ptr(0), 1, "", 0, impl.ErrShort},
		{"\x02" + ptr(0), 1, "", 0, impl.ErrShort},
		{"\x01" + ptr(0), 1, nm("\xc0"), 3, impl.OK},
		{"\x02" + ptr(0) + root, 1, nm("\xc0\x00"), 3, impl.OK},
	} {
		checkName(t, c.b, c.at, c.name, c.next, c.code)
	}
}

func TestDecodeNameLong(t *testing.T) {
	long := strings.Repeat("n", 63)
	three := strings.TrimSuffix(nm(long, long, long), root)
	label := func(n int) string { return string([]byte{byte(n)}) + strings.Repeat("m", n) }
	for _, size := range []int{193, 195, 254, 255} {
		checkName(t, nameOf(size), 0, nameOf(size), int64(size), impl.OK)
	}
	for _, size := range []int{256, 257} {
		checkName(t, nameOf(size), 0, "", 0, impl.ErrLong)
	}
	checkName(t, nm(times(127, "b")...), 0, nm(times(127, "b")...), 255, impl.OK)
	checkName(t, nm(times(128, "b")...), 0, "", 0, impl.ErrLong)
	for _, c := range []struct {
		tail string
		code int64
	}{
		// too long as soon as the label stands there, whatever is behind it
		{label(62), impl.ErrLong},
		{label(62) + "\x40", impl.ErrLong},
		{label(62) + ptr(9), impl.ErrLong},
		{label(61) + label(1), impl.ErrLong},
		{label(61) + label(1) + "\xbf", impl.ErrLong},
		// not before
		{label(62)[:62], impl.ErrShort},
		{label(61), impl.ErrShort},
		{label(61) + "\x01", impl.ErrShort},
		{label(61) + "\x40", impl.ErrLabel},
		{label(61) + ptr(9), impl.ErrPointer},
		{label(61) + "\xc0", impl.ErrShort},
	} {
		checkName(t, three+c.tail, 0, "", 0, c.code)
	}
}

// What a pointer leads to counts, but not what the pointer itself takes.
func TestDecodeNameLongByPointer(t *testing.T) {
	tail := nameOf(193)
	for ahead, code := range map[int]int64{60: impl.OK, 61: impl.OK, 62: impl.ErrLong, 63: impl.ErrLong} {
		b := tail + string([]byte{byte(ahead)}) + strings.Repeat("h", ahead) + ptr(0)
		name, next := "", int64(0)
		if code == impl.OK {
			name, next = nm(strings.Repeat("h", ahead))[:1+ahead]+tail, int64(len(b))
		}
		checkName(t, b, 193, name, next, code)
	}
	full := nameOf(255)
	checkName(t, full+ptr(0), 255, full, 257, impl.OK)
	checkName(t, full+"\x01x"+ptr(0), 255, "", 0, impl.ErrLong)
	checkName(t, full+"\x01x"+ptr(254), 255, nm("x"), 259, impl.OK)
	checkName(t, full+"\x01x"+ptr(64), 255, nm("x")[:2]+full[64:], 259, impl.OK)
	// a label more at each pointer: 127 of them are a name, 128 are none
	b, at := root, 0
	for n := 1; n <= 128; n++ {
		here := len(b)
		b += "\x01s" + ptr(at)
		at = here
		if n <= 127 {
			checkName(t, b, int64(at), nm(times(n, "s")...), int64(len(b)), impl.OK)
		} else {
			checkName(t, b, int64(at), "", 0, impl.ErrLong)
		}
	}
}

// Many pointers and not one label: as many as there are places to lead to.
func TestDecodeNamePointerChain(t *testing.T) {
	b := []byte(nm("end") + "\x00")
	for at := 0; len(b) <= 16384; {
		here := len(b)
		b = append(b, ptr(at)...)
		at = here
	}
	last := int64(len(b) - 2)
	if name, next, code := impl.DecodeName(b, last); name != nm("end") || next != last+2 || code != impl.OK {
		t.Errorf("a chain of pointers leads to %q, %d, %d", name, next, code)
	}
}

// All short texts of the bytes that matter, at all places.
func TestDecodeNameSmall(t *testing.T) {
	const letters = "\x00\x01\x02\x03\x40\xbf\xc0"
	list := []string{""}
	for from := 0; len(list[len(list)-1]) < 6; from++ {
		for _, c := range []byte(letters) {
			list = append(list, list[from]+string([]byte{c}))
		}
	}
	for _, b := range list {
		for at := -1; at <= len(b)+1; at++ {
			name, next, code := "", 0, int64(impl.ErrForm)
			if at >= 0 && at <= len(b) {
				name, next, code = nameAt(b, at, at, 0)
			}
			if code != impl.OK {
				name, next = "", 0
			}
			checkName(t, b, int64(at), name, int64(next), code)
		}
		if t.Failed() {
			return
		}
	}
}

// Arbitrary longer ones, in which long names and many stretches come up.
func TestDecodeNameArbitrary(t *testing.T) {
	r := rand.New(rand.NewSource(20))
	seen := map[int64]int{}
	for range 30000 {
		b := make([]byte, 1+r.Intn(600))
		for i := range b {
			switch r.Intn(40) {
			case 0:
				b[i] = 0xc0 | byte(r.Intn(len(b)>>8+1))
			case 1:
				b[i] = byte(r.Intn(256))
			case 2:
				b[i] = 0
			default:
				b[i] = byte(1 + r.Intn(63))
			}
		}
		at := r.Intn(len(b) + 1)
		name, next, code := nameAt(string(b), at, at, 0)
		seen[code]++
		if code != impl.OK {
			name, next = "", 0
		}
		checkName(t, string(b), int64(at), name, int64(next), code)
	}
	for _, code := range []int64{impl.OK, impl.ErrShort, impl.ErrLabel, impl.ErrPointer, impl.ErrLong} {
		if seen[code] < 100 {
			t.Errorf("the code %d came up only %d times", code, seen[code])
		}
	}
}
