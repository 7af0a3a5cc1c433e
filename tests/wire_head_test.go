package tests

import (
	"strings"
	"testing"

	"loop.example/s01858/impl"
)

// flagHeads are heads with just one flag each, and the number that their two bytes of flags are.
func flagHeads() map[int64]impl.Head {
	return map[int64]impl.Head{
		0:      {},
		0x8000: {QR: true},
		0x4000: {Op: 8},
		0x2000: {Op: 4},
		0x1000: {Op: 2},
		0x0800: {Op: 1},
		0x0400: {AA: true},
		0x0200: {TC: true},
		0x0100: {RD: true},
		0x0080: {RA: true},
		0x0040: {Z: true},
		0x0020: {AD: true},
		0x0010: {CD: true},
		0x0008: {Code: 8},
		0x0004: {Code: 4},
		0x0002: {Code: 2},
		0x0001: {Code: 1},
		0x7800: {Op: 15},
		0x000f: {Code: 15},
		0xffff: {QR: true, Op: 15, AA: true, TC: true, RD: true, RA: true, Z: true, AD: true, CD: true, Code: 15},
	}
}

func TestDecodeHeadFlags(t *testing.T) {
	for flags, want := range flagHeads() {
		for _, id := range []int64{0, 1, 255, 256, 0x1234, 65535} {
			want.ID = id
			b := be(id, 2) + be(flags, 2) + strings.Repeat("\x00", 8)
			got, counts, code := impl.DecodeHead([]byte(b))
			if got != want || counts != [4]int64{} || code != impl.OK {
				t.Errorf("DecodeHead(%x) = %+v, %d, %d, want %+v", b, got, counts, code, want)
			}
			m, code := impl.Decode([]byte(b))
			if !sameMessage(m, impl.Message{Head: want}) || code != impl.OK {
				t.Errorf("Decode(%x) = %+v, %d, want %+v", b, m, code, want)
			}
			out, code := impl.Encode(impl.Message{Head: want})
			if string(out) != b || code != impl.OK {
				t.Errorf("Encode(%+v) = %x, %d, want %x", want, out, code, b)
			}
		}
	}
}

// Every number of the flags, read and written.
func TestHeadAllFlags(t *testing.T) {
	for flags := range int64(65536) {
		b := be(65535-flags, 2) + be(flags, 2) + strings.Repeat("\x00", 8)
		head, _, code := impl.DecodeHead([]byte(b))
		out, outCode := impl.Encode(impl.Message{Head: head})
		if head != headAt(b) || code != impl.OK || string(out) != b || outCode != impl.OK {
			t.Fatalf("the head %x is read as %+v, %d and written as %x, %d", b, head, code, out, outCode)
		}
	}
}

func TestDecodeHeadCounts(t *testing.T) {
	for _, want := range [][4]int64{{}, {1, 2, 3, 4}, {0, 0, 0, 1}, {1, 0, 0, 0}, {0, 256, 0, 0}, {0, 0, 257, 0}, {65535, 65535, 65535, 65535}, {400, 1, 0, 0}, {401, 0, 0, 0}} {
		b := hd(want[:]...)
		head, counts, code := impl.DecodeHead([]byte(b))
		if head != (impl.Head{ID: 1}) || counts != want || code != impl.OK {
			t.Errorf("DecodeHead(%x) = %+v, %d, %d", b, head, counts, code)
		}
	}
}

func TestDecodeHeadSize(t *testing.T) {
	const all = "\x12\x34\xff\xff\x01\x02\x03\x04\x05\x06\x07\x08"
	for n := range 12 {
		head, counts, code := impl.DecodeHead([]byte(all[:n]))
		if head != (impl.Head{}) || counts != [4]int64{} || code != impl.ErrShort {
			t.Errorf("DecodeHead of %d bytes = %+v, %d, %d", n, head, counts, code)
		}
		if m, code := impl.Decode([]byte(all[:n])); !isZero(m) || code != impl.ErrShort {
			t.Errorf("Decode of %d bytes = %+v, %d", n, m, code)
		}
	}
	// what is behind is not looked at, neither what it is nor how much it is
	for _, behind := range []string{"", "x", "\xff\xff", strings.Repeat("\xc0", 65535-12), strings.Repeat("y", 100000)} {
		head, counts, code := impl.DecodeHead([]byte(all + behind))
		if head != headAt(all) || counts != [4]int64{0x102, 0x304, 0x506, 0x708} || code != impl.OK {
			t.Errorf("DecodeHead with %d bytes behind = %+v, %d, %d", len(behind), head, counts, code)
		}
	}
}
