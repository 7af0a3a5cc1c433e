package tests

import (
	"math/rand"
	"slices"
	"strings"
	"testing"

	"loop.example/s01858/impl"
)

func TestCheckDataTakes(t *testing.T) {
	for rtype, list := range someData() {
		for _, data := range list {
			if got := impl.CheckData(rtype, data); got != impl.OK {
				t.Errorf("CheckData(%d, %.300q) = %d", rtype, data, got)
			}
		}
	}
}

// A byte too many or too few is ill data, but where any bytes may stand.
func TestCheckDataByteMoreOrLess(t *testing.T) {
	for rtype, list := range someData() {
		for _, data := range list {
			if len(data) > 2000 || formText(rtype) == "" {
				continue
			}
			for _, bad := range []string{data[:len(data)-1], data + "\x01", data + "x", data[1:]} {
				want := int64(impl.ErrData)
				if isData(rtype, bad) {
					want = impl.OK
				}
				if got := impl.CheckData(rtype, bad); got != want {
					t.Errorf("CheckData(%d, %.300q) = %d", rtype, bad, got)
				}
			}
		}
	}
}

func TestCheckDataRefuses(t *testing.T) {
	nsec := nm("a")
	for rtype, list := range map[int64][]string{
		impl.TypeA:     {"", "abc", "abcde", "\x04abcd"},
		impl.TypeAAAA:  {"", "abcd", strings.Repeat("a", 15), strings.Repeat("a", 17)},
		impl.TypeMX:    {"", "\x00", "\x00\x01", "\x00" + nm("a"), nm("ab"), "\x00\x01" + nm("a") + root},
		impl.TypeSRV:   {"", "\x00\x01\x00\x01\x00\x50", "\x00\x01\x00\x01\x00" + nm("a"), "\x00\x01\x00\x01\x00\x50" + nm("a") + "x"},
		impl.TypeSOA:   {"", root, root + root, root + soaTail, root + root + soaTail[1:], root + root + soaTail + "x", nm("a") + soaTail + nm("b"), nm("a") + nm("b"), nm("a")[:2] + nm("b") + soaTail},
		impl.TypeTXT:   {"", "\x01", "\x02a", "\x00\x01", st("ab") + "\x03cd", "\xff" + strings.Repeat("a", 254)},
		impl.TypeHINFO: {"", "\x00", st("a"), st("a") + st("b") + st("c"), st("a") + "\x02b", st("a") + st("b") + "\x00"},
		impl.TypeNAPTR: {"", "1234", "1234" + root, "1234\x00\x00" + root, "1234\x00\x00\x00", "123\x00\x00\x00" + root, "1234\x00\x00\x00\x00" + root, "1234\x00\x00\x00" + root + root, "1234\x00\x00\x05abc" + root},
		impl.TypeCAA: {
			"", "\x00", "\x00\x00", "\x00\x00x", "\x00\x01", "\x00\x05issu", "\x00\x101234567890123456", "\x00\x10123456789012345_",
			"\x00\x05is ue", "\x00\x05issu-", "\x00\x01_", "\x00\x01/", "\x00\x01:", "\x00\x01@", "\x00\x01[", "\x00\x01`", "\x00\x01{", "\x00\x01\x00", "\x00\x01\xc9", "\x00\x02a\xe9", "\x00\x02.a",
		},
		impl.TypeNSEC: {
			"", "\x01a", nsec + "\x00", nsec + "\x00\x01", nsec + "\x00\x00", nsec + "\x00\x00\x01", nsec + "\x00\x01\x00",
			nsec + "\x00\x02\x40\x00", nsec + "\x00\x02\x40", nsec + "\x00\x21" + strings.Repeat("\x40", 33),
			nsec + "\x01\x01\x40\x00\x01\x40", nsec + "\x00\x01\x40\x00\x01\x40", nsec + "\x00\x01\x40\x00", nsec + "\x00\x01\x40x", "\x00\x01\x40",
		},
	} {
		for _, data := range list {
			if got := impl.CheckData(rtype, data); got != impl.ErrData {
				t.Errorf("CheckData(%d, %q) = %d", rtype, data, got)
			}
		}
	}
}

func TestCheckDataNoName(t *testing.T) {
	for _, bad := range noNames() {
		for rtype, data := range map[int64]string{
			impl.TypeNS:    bad,
			impl.TypeCNAME: bad,
			impl.TypePTR:   bad,
			impl.TypeDNAME: bad,
			impl.TypeMX:    "\x00\x01" + bad,
			impl.TypeSRV:   "\x00\x01\x00\x02\x00\x03" + bad,
			impl.TypeNAPTR: "1234\x00\x00\x00" + bad,
		} {
			if got := impl.CheckData(rtype, data); got != impl.ErrData {
				t.Errorf("CheckData(%d, %.300q) = %d", rtype, data, got)
			}
		}
		for _, data := range []string{bad + root + soaTail, root + bad + soaTail} {
			if len(data) < 600 && isData(impl.TypeSOA, data) {
				continue
			}
			if got := impl.CheckData(impl.TypeSOA, data); got != impl.ErrData {
				t.Errorf("CheckData(SOA, %.300q) = %d", data, got)
			}
		}
	}
}

// Every byte that a tag of one, or the last of a tag of fifteen, may be.
func TestCheckDataTagBytes(t *testing.T) {
	for n := range 256 {
		c := byte(n)
		want := int64(impl.ErrData)
		if c >= '0' && c <= '9' || c >= 'a' && c <= 'z' || c >= 'A' && c <= 'Z' {
			want = impl.OK
		}
		for _, tag := range []string{string([]byte{c}), "12345678901234" + string([]byte{c}), string([]byte{c}) + "b"} {
			if got := impl.CheckData(impl.TypeCAA, "\x00"+st(tag)+"any"); got != want {
				t.Errorf("CheckData of a tag %q = %d", tag, got)
			}
		}
	}
	for size := range 256 {
		want := int64(impl.ErrData)
		if size >= 1 && size <= 15 {
			want = impl.OK
		}
		if got := impl.CheckData(impl.TypeCAA, "\x00"+st(strings.Repeat("a", size))); got != want {
			t.Errorf("CheckData of a tag of %d bytes = %d", size, got)
		}
	}
}

func TestCheckDataTypes(t *testing.T) {
	for _, rtype := range freeTypes() {
		for _, data := range []string{"", "\xc0\x0c", strings.Repeat("x", 65535)} {
			if got := impl.CheckData(rtype, data); got != impl.OK {
				t.Errorf("CheckData(%d, %.100q) = %d", rtype, data, got)
			}
		}
	}
	// That a number is no type is told ahead of what is wrong with the data.
	for _, rtype := range noTypes() {
		for _, data := range []string{"", "abcd", root, strings.Repeat("x", 65536)} {
			if got := impl.CheckData(rtype, data); got != impl.ErrType {
				t.Errorf("CheckData(%d, %.100q) = %d", rtype, data, got)
			}
		}
	}
	// Just the types of the chapter have a form: no other refuses these bytes.
	for rtype := range int64(65536) {
		want := int64(impl.OK)
		if slices.Contains(formTypes(), rtype) {
			want = impl.ErrData
		}
		if got := impl.CheckData(rtype, "\xff"); got != want {
			t.Errorf("CheckData(%d) = %d", rtype, got)
		}
	}
}

func TestCheckDataSize(t *testing.T) {
	tag := "\x00\x01a"
	for _, c := range []struct {
		rtype int64
		ahead string
		fill  string
	}{
		{99, "", "x"}, {0, "", "\x00"}, {65535, "", "x"}, {impl.TypeOPT, "", "x"}, {impl.TypeTXT, "", "\x00"}, {impl.TypeCAA, tag, "x"},
	} {
		for size, want := range map[int]int64{65534: impl.OK, 65535: impl.OK, 65536: impl.ErrData, 65537: impl.ErrData, 1000000: impl.ErrData} {
			data := c.ahead + strings.Repeat(c.fill, size-len(c.ahead))
			if got := impl.CheckData(c.rtype, data); got != want {
				t.Errorf("CheckData(%d, %d bytes) = %d", c.rtype, size, got)
			}
		}
	}
}

// smallData is every text of up to that many bytes out of those that tell a length, stand in a tag or end a map.
func smallData(most int) []string {
	list, last := []string{""}, []string{""}
	for range most {
		var next []string
		for _, s := range last {
			for _, c := range []byte{0, 1, 2, 'a', 33, 192} {
				next = append(next, s+string([]byte{c}))
			}
		}
		list, last = append(list, next...), next
	}
	return list
}

// Every short datum of every form, held against each way to cut it.
func TestCheckDataSmall(t *testing.T) {
	list := smallData(5)
	for _, rtype := range formTypes() {
		ahead, behind := "", ""
		switch rtype {
		case impl.TypeSOA:
			behind = soaTail
		case impl.TypeSRV:
			ahead = "123456"
		case impl.TypeNAPTR:
			ahead = "123"
		}
		for _, s := range list {
			data := ahead + s + behind
			want := int64(impl.ErrData)
			if isData(rtype, data) {
				want = impl.OK
			}
			if got := impl.CheckData(rtype, data); got != want {
				t.Errorf("CheckData(%d, %q) = %d", rtype, data, got)
			}
		}
	}
}

// Data with one byte changed, cut out or put in.
func TestCheckDataChanged(t *testing.T) {
	r := rand.New(rand.NewSource(8))
	good, ill := 0, 0
	for _, rtype := range formTypes() {
		for range 300 {
			data := someDataOf(r, rtype)
			if len(data) > 200 {
				continue
			}
			at, c := r.Intn(len(data)), string([]byte{[]byte{0, 1, 2, 3, 63, 64, 'a', 255}[r.Intn(8)]})
			for _, s := range []string{data, data[:at] + c + data[at+1:], data[:at] + data[at+1:], data[:at] + c + data[at:]} {
				want := int64(impl.ErrData)
				if isData(rtype, s) {
					want = impl.OK
					good++
				} else {
					ill++
				}
				if got := impl.CheckData(rtype, s); got != want {
					t.Errorf("CheckData(%d, %q) = %d", rtype, s, got)
				}
			}
		}
	}
	if good < 1000 || ill < 1000 {
		t.Errorf("only %d data that are of their form, %d that are not", good, ill)
	}
}
