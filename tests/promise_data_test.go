package tests

import (
	"math"
	"math/rand"
	"slices"
	"strings"
	"testing"

	"loop.example/s01858/impl"
)

// callData calls every function of chapter 3 with a type, two data and a number.
func callData(t *testing.T, rtype int64, a, b string, n int64) {
	t.Helper()
	code := impl.CheckData(rtype, a)
	if noType := rtype < 0 || rtype > 65535; noType != (code == impl.ErrType) || !noType && code != impl.OK && code != impl.ErrData {
		t.Errorf("CheckData(%d, %.300q) = %d", rtype, a, code)
	}
	spans, folded := impl.DataNames(rtype, a), impl.FoldData(rtype, a)
	if code != impl.OK && (len(spans) > 0 || folded != "") || code == impl.OK && len(folded) != len(a) {
		t.Errorf("%d, %.300q: code %d, names %v, folded %.300q", rtype, a, code, spans, folded)
	}
	for _, s := range spans {
		if s.From < 0 || s.From >= s.To || s.To > int64(len(a)) || !isName(a[s.From:s.To]) {
			t.Errorf("DataNames(%d, %.300q) = %v", rtype, a, spans)
		}
	}
	order := impl.CompareData(rtype, a, b)
	if order < -1 || order > 1 || impl.CompareData(rtype, b, a) != -order {
		t.Errorf("CompareData(%d, %.300q, %.300q) = %d", rtype, a, b, order)
	}
	bits, mapCode := impl.TypeMap([]int64{rtype, n})
	if (bits == "") != (mapCode != impl.OK) {
		t.Errorf("TypeMap(%d, %d) = %q, %d", rtype, n, bits, mapCode)
	}
	if types, code := impl.MapTypes(a); code != impl.OK && (len(types) > 0 || code != impl.ErrData) {
		t.Errorf("MapTypes(%.300q) = %d, %d", a, types, code)
	}
	serial, serialCode := impl.Serial(a)
	if (serialCode == impl.OK) != (impl.CheckData(impl.TypeSOA, a) == impl.OK) || serialCode != impl.OK && serial != 0 || serial < 0 || serial > 4294967295 {
		t.Errorf("Serial(%.300q) = %d, %d", a, serial, serialCode)
	}
	if got, code := impl.WithSerial(a, n); (got == "") != (code != impl.OK) {
		t.Errorf("WithSerial(%.300q, %d) = %.300q, %d", a, n, got, code)
	}
}

// P1: no call panics, and every call ends.
func TestP1Data(t *testing.T) {
	list := append(noNames(), noSOA()...)
	for _, more := range someData() {
		list = append(list, more[0], more[len(more)-1])
	}
	types := slices.Concat(noTypes(), formTypes(), freeTypes())
	numbers := []int64{0, 1, -1, 65535, 65536, 4294967295, 4294967296, math.MaxInt64, math.MinInt64}
	for _, rtype := range types {
		for k, a := range list {
			callData(t, rtype, a, list[(k*7+3)%len(list)], numbers[k%len(numbers)])
		}
	}
	r := rand.New(rand.NewSource(12))
	for _, rtype := range types {
		for range 400 {
			var s [2]string
			for i := range s {
				b := make([]byte, r.Intn(30))
				for k := range b {
					b[k] = "\x00\x00\x01\x01\x02\x03aZ\x20\x21\xc0\xff"[r.Intn(12)]
				}
				s[i] = string(b)
			}
			callData(t, rtype, s[0], s[1], numbers[r.Intn(len(numbers))])
		}
	}
}

// P1: calls with much end, too.
func TestP1DataMuch(t *testing.T) {
	huge := strings.Repeat("\x01a", 4000000)
	for _, rtype := range append(formTypes(), 99, -1) {
		callData(t, rtype, huge, huge, 1)
	}
	types := slices.Repeat([]int64{1, 65535, 0}, 1000000)
	if got, code := impl.TypeMap(types); got != "\x00\x01\xc0\xff\x20"+strings.Repeat("\x00", 31)+"\x01" || code != impl.OK {
		t.Errorf("TypeMap of many types = %q, %d", got, code)
	}
}

// P1: nothing is written into an argument, nor behind it into memory that belongs to its owner.
func TestP1DataLeavesArguments(t *testing.T) {
	for _, all := range [][]int64{{47, 1, 15, 1, 77, 78}, {47, 1, 65536, 1, 77, 78}, {-1, 47, 1, 1, 77, 78}} {
		before := slices.Clone(all)
		impl.TypeMap(all[:4])
		if !slices.Equal(all, before) {
			t.Errorf("TypeMap made %d of %d", all, before)
		}
	}
}

// P1: an answer is new memory.
func TestP1DataIsNew(t *testing.T) {
	bits := "\x00\x06\x40\x01\x00\x00\x00\x03"
	first, second := impl.MapTypes(bits)
	again, _ := impl.MapTypes(bits)
	if second != impl.OK || len(first) != 4 {
		t.Fatalf("MapTypes = %d, %d", first, second)
	}
	first[0] = 99
	_ = append(first[:1], 98)
	want := []int64{1, 15, 46, 47}
	if later, _ := impl.MapTypes(bits); !slices.Equal(again, want) || !slices.Equal(later, want) {
		t.Errorf("one answer of MapTypes shows in another: %d, %d", again, later)
	}
	soa := nm("ns") + nm("admin") + soaTail
	spans, others := impl.DataNames(impl.TypeSOA, soa), impl.DataNames(impl.TypeSOA, soa)
	spans[0] = impl.Span{From: 5, To: 6}
	_ = append(spans[:1], impl.Span{})
	names := []impl.Span{{From: 0, To: 4}, {From: 4, To: 11}}
	if later := impl.DataNames(impl.TypeSOA, soa); !slices.Equal(others, names) || !slices.Equal(later, names) {
		t.Errorf("one answer of DataNames shows in another: %v, %v", others, later)
	}
	types := []int64{1, 15}
	made, _ := impl.TypeMap(types)
	types[0] = 2
	if made != "\x00\x02\x40\x01" {
		t.Errorf("TypeMap's answer became %q", made)
	}
}
