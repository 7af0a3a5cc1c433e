package tests

import (
	"math"
	"math/rand"
	"testing"

	"loop.example/s01858/impl"
)

func TestOperations(t *testing.T) {
	if impl.OpQuery != 0 || impl.OpUpdate != 5 {
		t.Errorf("OpQuery is %d, OpUpdate %d", impl.OpQuery, impl.OpUpdate)
	}
}

func TestSerialLess(t *testing.T) {
	starts := []int64{0, 1, 7, 2147483646, 2147483647, 2147483648, 2147483649, 4294967294, 4294967295}
	gaps := map[int64]bool{0: false, 1: true, 2: true, 2147483646: true, 2147483647: true, 2147483648: false, 2147483649: false, 4294967294: false, 4294967295: false}
	for _, a := range starts {
		for gap, want := range gaps {
			if b := (a + gap) % 4294967296; impl.SerialLess(a, b) != want {
				t.Errorf("SerialLess(%d, %d) = %t", a, b, !want)
			}
		}
	}
	for _, no := range []int64{-1, -2147483648, -4294967295, 4294967296, 4294967297, 6442450944, math.MinInt64, math.MaxInt64} {
		for _, a := range starts {
			if impl.SerialLess(a, no) || impl.SerialLess(no, a) || impl.SerialLess(no, no) || impl.SerialLess(no, no+1) {
				t.Errorf("SerialLess of %d and %d", a, no)
			}
		}
	}
}

func TestSerialLessAnyTwo(t *testing.T) {
	r := rand.New(rand.NewSource(110))
	for range 20000 {
		a, b := int64(r.Uint32()), int64(r.Uint32())
		if r.Intn(3) == 0 {
			b = (a + 2147483640 + int64(r.Intn(16))) % 4294967296
		}
		if impl.SerialLess(a, b) != isAfter(a, b) {
			t.Errorf("SerialLess(%d, %d) = %t", a, b, !isAfter(a, b))
		}
	}
}

func TestNextSerial(t *testing.T) {
	for a, want := range map[int64]int64{
		0: 1, 1: 2, 7: 8, 2147483647: 2147483648, 4294967294: 4294967295, 4294967295: 1,
		-1: 0, 4294967296: 0, math.MinInt64: 0, math.MaxInt64: 0, -4294967296: 0, 8589934591: 0,
	} {
		if got := impl.NextSerial(a); got != want {
			t.Errorf("NextSerial(%d) = %d, want %d", a, got, want)
		}
	}
}

func TestNextSerialComesBehind(t *testing.T) {
	r := rand.New(rand.NewSource(111))
	for range 5000 {
		a := int64(r.Uint32())
		if next := impl.NextSerial(a); !impl.SerialLess(a, next) || next == 0 {
			t.Errorf("NextSerial(%d) = %d", a, next)
		}
	}
}
