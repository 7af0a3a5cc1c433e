package tests

import (
	"math/rand"
	"slices"
	"strings"
	"testing"

	"loop.example/s01858/impl"
)

func TestTypeMap(t *testing.T) {
	for _, c := range []struct {
		types []int64
		want  string
	}{
		{nil, ""},
		{[]int64{}, ""},
		{[]int64{0}, "\x00\x01\x80"},
		{[]int64{1}, "\x00\x01\x40"},
		{[]int64{7}, "\x00\x01\x01"},
		{[]int64{8}, "\x00\x02\x00\x80"},
		{[]int64{1, 15, 47}, "\x00\x06\x40\x01\x00\x00\x00\x01"},
		{[]int64{47, 1, 15, 1, 47, 47}, "\x00\x06\x40\x01\x00\x00\x00\x01"},
		{[]int64{255}, "\x00\x20" + strings.Repeat("\x00", 31) + "\x01"},
		{[]int64{256}, "\x01\x01\x80"},
		{[]int64{257, 1}, "\x00\x01\x40\x01\x01\x40"},
		{[]int64{65535, 0}, "\x00\x01\x80\xff\x20" + strings.Repeat("\x00", 31) + "\x01"},
		{[]int64{65535}, "\xff\x20" + strings.Repeat("\x00", 31) + "\x01"},
		{[]int64{65280}, "\xff\x01\x80"},
		{[]int64{1234, 1, 15, 46, 47}, "\x00\x06\x40\x01\x00\x00\x00\x03\x04\x1b" + strings.Repeat("\x00", 26) + "\x20"},
	} {
		if got, code := impl.TypeMap(c.types); got != c.want || code != impl.OK {
			t.Errorf("TypeMap(%d) = %q, %d", c.types, got, code)
		}
	}
	for _, bad := range noTypes() {
		for _, types := range [][]int64{{bad}, {bad, 1}, {1, bad}, {1, 15, bad, 47}, {bad, bad}} {
			if got, code := impl.TypeMap(types); got != "" || code != impl.ErrType {
				t.Errorf("TypeMap(%d) = %q, %d", types, got, code)
			}
		}
	}
}

// Each type alone, and all of them.
func TestTypeMapEachType(t *testing.T) {
	var all []int64
	for n := range int64(65536) {
		all = append(all, n)
		low := n % 256
		want := string([]byte{byte(n / 256), byte(low/8 + 1)}) + strings.Repeat("\x00", int(low/8)) + string([]byte{1 << (7 - low%8)})
		if got, code := impl.TypeMap([]int64{n, n}); got != want || code != impl.OK {
			t.Errorf("TypeMap(%d) = %q, %d", n, got, code)
		}
		if got, code := impl.MapTypes(want); !slices.Equal(got, []int64{n}) || code != impl.OK {
			t.Errorf("MapTypes(%q) = %d, %d", want, got, code)
		}
	}
	if got, code := impl.MapTypes(allTypesMap()); !slices.Equal(got, all) || code != impl.OK {
		t.Errorf("MapTypes of all types: %d of them, %d", len(got), code)
	}
	slices.Reverse(all)
	if got, code := impl.TypeMap(all); got != allTypesMap() || code != impl.OK {
		t.Errorf("TypeMap of all types: %d bytes, %d", len(got), code)
	}
}

func TestMapTypes(t *testing.T) {
	for _, c := range []struct {
		bits string
		want []int64
	}{
		{"", nil},
		{"\x00\x01\x80", []int64{0}},
		{"\x00\x01\xff", []int64{0, 1, 2, 3, 4, 5, 6, 7}},
		{"\x00\x06\x40\x01\x00\x00\x00\x03", []int64{1, 15, 46, 47}},
		{"\x00\x01\x40\x01\x01\x40", []int64{1, 257}},
		{"\x00\x20" + strings.Repeat("\x00", 31) + "\x01", []int64{255}},
		{"\x03\x02\x00\x10\x05\x01\x01\xff\x01\x81", []int64{779, 1287, 65280, 65287}},
	} {
		if got, code := impl.MapTypes(c.bits); !slices.Equal(got, c.want) || code != impl.OK {
			t.Errorf("MapTypes(%q) = %d, %d", c.bits, got, code)
		}
	}
	for _, bad := range []string{
		"\x00", "\x40", "\x00\x00", "\x00\x01", "\x00\x02\x40", "\x00\x01\x00", "\x00\x02\x40\x00",
		"\x00\x00\x40", "\x00\x00\x01\x01\x40",
		"\x00\x21" + strings.Repeat("\x01", 33), "\x00\x21" + strings.Repeat("\x01", 32), "\x00\x20" + strings.Repeat("\x01", 31), "\x00\x20" + strings.Repeat("\x01", 31) + "\x00",
		"\x00\xff" + strings.Repeat("\x01", 255),
		"\x01\x01\x40\x00\x01\x40", "\x01\x01\x40\x01\x01\x40", "\x00\x01\x40\x00\x01\x20", "\x00\x01\x40\x02\x01\x40\x01\x01\x40", "\xff\x01\x40\x00\x01\x40",
		"\x00\x01\x40\x01", "\x00\x01\x40\x01\x01", "\x00\x01\x40\x01\x01\x00", "\x00\x01\x40x",
		allTypesMap() + "\x00", allTypesMap()[:34*256-1], allTypesMap() + allTypesMap(), strings.Repeat("\x00\x01\x40", 100000),
	} {
		if got, code := impl.MapTypes(bad); len(got) != 0 || code != impl.ErrData {
			t.Errorf("MapTypes(%.200q) = %d, %d", bad, len(got), code)
		}
	}
}

// A block has from 1 to 32 bytes of bits.
func TestMapTypesBlockSizes(t *testing.T) {
	for n := range 256 {
		bits := string([]byte{7, byte(n)}) + strings.Repeat("\x01", n)
		want := int64(impl.ErrData)
		if n >= 1 && n <= 32 {
			want = impl.OK
		}
		got, code := impl.MapTypes(bits)
		if code != want || code == impl.OK && len(got) != n {
			t.Errorf("MapTypes of a block of %d bytes = %d, %d", n, got, code)
		}
		if code := impl.CheckData(impl.TypeNSEC, nm("next")+bits); code != want {
			t.Errorf("CheckData of a block of %d bytes = %d", n, code)
		}
	}
}

// Every short text out of those bytes that matter: a map, or none.
func TestMapTypesSmall(t *testing.T) {
	for _, s := range smallData(6) {
		got, code := impl.MapTypes(s)
		if want := isTypeMap(s); want != (code == impl.OK) || !want && (code != impl.ErrData || len(got) != 0) {
			t.Errorf("MapTypes(%q) = %d, %d", s, got, code)
		}
		if code != impl.OK {
			continue
		}
		if back, code := impl.TypeMap(got); back != s || code != impl.OK {
			t.Errorf("TypeMap(MapTypes(%q)) = %q, %d", s, back, code)
		}
	}
}

// Types in any order and any of them several times; the map says just these, rising.
func TestTypeMapAndBack(t *testing.T) {
	r := rand.New(rand.NewSource(9))
	for range 2000 {
		var types []int64
		most := int64(1) << (1 + r.Intn(16))
		for range r.Intn(40) {
			n := r.Int63n(most)
			types = append(types, n)
			for range r.Intn(3) {
				types = append(types, n)
			}
		}
		r.Shuffle(len(types), func(i, k int) { types[i], types[k] = types[k], types[i] })
		bits, code := impl.TypeMap(types)
		if code != impl.OK || !isTypeMap(bits) {
			t.Errorf("TypeMap(%d) = %q, %d", types, bits, code)
		}
		want := slices.Clone(types)
		slices.Sort(want)
		want = slices.Compact(want)
		if got, code := impl.MapTypes(bits); !slices.Equal(got, want) || code != impl.OK {
			t.Errorf("MapTypes(TypeMap(%d)) = %d, %d", types, got, code)
		}
	}
	for range 500 {
		bits := someMap(r)
		types, code := impl.MapTypes(bits)
		if code != impl.OK || !slices.IsSorted(types) {
			t.Errorf("MapTypes(%q) = %d, %d", bits, types, code)
		}
		if back, code := impl.TypeMap(types); back != bits || code != impl.OK {
			t.Errorf("TypeMap(MapTypes(%q)) = %q, %d", bits, back, code)
		}
	}
}
