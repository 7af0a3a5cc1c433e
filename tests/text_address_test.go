package tests

import (
	"math/rand"
	"net/netip"
	"strconv"
	"strings"
	"testing"

	"loop.example/s01858/impl"
)

// noV4 are texts that are no addresses of four bytes.
func noV4() []string {
	return []string{
		"", ".", "...", "....", "1", "1.2", "1.2.3", "1.2.3.", "1.2.3.4.", ".1.2.3.4", ".1.2.3", "1..2.3", "1..3.4", "1.2.3.4.5",
		"1.2.3.4.5.6", "1.2.3.256", "256.1.1.1", "1.256.1.1", "1.1.256.1", "1.2.3.257", "1.2.3.300", "1.2.3.999", "1.2.3.1000",
		"1.2.3.4294967297", "1.2.3.18446744073709551617", "01.2.3.4", "1.2.3.04", "1.2.3.00", "00.0.0.0", "1.2.3.010", "1.2.3.001",
		"1.2.3.0x4", "1.2.3.a", "1.2.3.+4", "1.2.3.-4", "-1.2.3.4", "1.2.3. 4", " 1.2.3.4", "1.2.3.4 ", "1.2.3.4\n", "1.2.3.4\x00",
		"1,2,3,4", "1.2.3.4/8", "1.2.3./", "1.2.3.:", "\xd9\xa1.2.3.4", strings.Repeat("1.", 1000000) + "1",
	}
}

func TestReadV4(t *testing.T) {
	for s, want := range map[string]string{
		"192.0.2.1":       "\xc0\x00\x02\x01",
		"0.0.0.0":         "\x00\x00\x00\x00",
		"255.255.255.255": "\xff\xff\xff\xff",
		"1.10.100.200":    "\x01\x0a\x64\xc8",
		"9.99.199.249":    "\x09\x63\xc7\xf9",
		"250.20.30.0":     "\xfa\x14\x1e\x00",
	} {
		if got, code := impl.ReadV4(s); got != want || code != impl.OK {
			t.Errorf("ReadV4(%q) = %q, %d", s, got, code)
		}
	}
	for _, s := range noV4() {
		if got, code := impl.ReadV4(s); got != "" || code != impl.ErrData {
			t.Errorf("ReadV4(%.300q) = %q, %d", s, got, code)
		}
	}
}

// Every text of up to three digits at every place.
func TestReadV4Numbers(t *testing.T) {
	for size := range 4 {
		limit := 1
		for range size {
			limit *= 10
		}
		for n := range limit {
			digits := strconv.Itoa(10000 + n)[5-size:]
			for at := range 4 {
				parts := []string{"7", "7", "7", "7"}
				parts[at] = digits
				want, wantCode := "", int64(impl.ErrData)
				if digits == strconv.Itoa(n) && n <= 255 {
					b := []byte{7, 7, 7, 7}
					b[at] = byte(n)
					want, wantCode = string(b), impl.OK
				}
				s := strings.Join(parts, ".")
				if got, code := impl.ReadV4(s); got != want || code != wantCode {
					t.Errorf("ReadV4(%q) = %q, %d", s, got, code)
				}
			}
		}
	}
}

func TestShowV4(t *testing.T) {
	for data, want := range map[string]string{
		"\xc0\x00\x02\x01": "192.0.2.1",
		"\x00\x00\x00\x00": "0.0.0.0",
		"\xff\xff\xff\xff": "255.255.255.255",
		"\x09\x0a\x63\x64": "9.10.99.100",
	} {
		if got, code := impl.ShowV4(data); got != want || code != impl.OK {
			t.Errorf("ShowV4(%q) = %q, %d", data, got, code)
		}
	}
	for _, size := range []int{0, 1, 3, 5, 8, 16, 260, 1000000} {
		if got, code := impl.ShowV4(strings.Repeat("a", size)); got != "" || code != impl.ErrData {
			t.Errorf("ShowV4 of %d bytes = %q, %d", size, got, code)
		}
	}
}

// v6 is the sixteen bytes of eight groups.
func v6(groups ...int) string {
	var out []byte
	for _, g := range groups {
		out = append(out, byte(g>>8), byte(g))
	}
	return string(out)
}

// noV6 are texts that are no addresses of sixteen bytes.
func noV6() []string {
	return []string{
		"", ":", ":::", "::::", "1", "1:2", "1:2:3:4:5:6:7", "1:2:3:4:5:6:7:8:9", ":1", "1:", ":1:2:3:4:5:6:7", ":1:2:3:4:5:6:7:8",
		"1:2:3:4:5:6:7:8:", "1:2:3:4:5:6:7:", "1::2::3", "::1::", "1::2::", "::1::2", "1:::2", ":::1", "1:::", "::1:", ":1::", "1::2:",
		"1:2:3:4:5:6:7:8::", "::1:2:3:4:5:6:7:8", "1:2:3:4::5:6:7:8", "1:2:3:4:5:6:7::8", "1::2:3:4:5:6:7:8",
		"12345::", "::12345", "::00001", "1:2:3:4:5:6:7:00008", "::g", "::G", "::-1", "::+1", "::0x1", ":: 1", " ::", ":: ", "::\n",
		"::/", "::@", "::`", "::1%eth0", "[::1]", "::1/128",
		"1.2.3.4", "1.2.3.4::", "1.2.3.4::1", "1.2.3.4:1::", "::1.2.3.4:5", "1.2.3.4:5:6:7:8:9:10", "1:2:3:4:5:1.2.3.4:6", "1:2:3:4:5:1.2.3.4::",
		"1:2:3:4:5:1.2.3.4", "1:2:3:4:5:6:7:1.2.3.4", "1:2:3:4:5:6::1.2.3.4", "::1:2:3:4:5:6:1.2.3.4", "1:2:3:4::5:6:1.2.3.4",
		"::1.2.3", "::1.2.3.4.5", "::1.2.3.256", "::01.2.3.4", "::1.2.3.4.", "::.1.2.3", "::1.2.3.a", "::a.2.3.4", "::ffff:1.2.3.4::",
		"::1.2.3.4:1.2.3.4", "1.2.3.4:1.2.3.4:1.2.3.4:1.2.3.4",
		"::" + strings.Repeat("0", 98), "::" + strings.Repeat("0", 99), strings.Repeat(":", 100), strings.Repeat(":", 101), strings.Repeat("0:", 50), strings.Repeat("0:", 50) + "0",
		"1:2:3:4:5:6:7:8" + strings.Repeat(" ", 85), "1:2:3:4:5:6:7:8" + strings.Repeat(" ", 86), "::" + strings.Repeat("\x00", 98),
		strings.Repeat("1:", 1000000),
	}
}

func TestReadV6(t *testing.T) {
	all := v6(1, 2, 3, 4, 5, 6, 7, 8)
	for s, want := range map[string]string{
		"2001:db8::1":                       v6(0x2001, 0xdb8, 0, 0, 0, 0, 0, 1),
		"2001:0DB8:0:0:0:0:0:1":             v6(0x2001, 0xdb8, 0, 0, 0, 0, 0, 1),
		"1:2:3:4:5:6:7:8":                   all,
		"0001:0002:003:004:05:06:7:0008":    all,
		"FFFF:ffff:AbCd:eF01:0:00:000:0000": v6(0xffff, 0xffff, 0xabcd, 0xef01, 0, 0, 0, 0),
		"a:b:c:d:e:f:A:B":                   v6(10, 11, 12, 13, 14, 15, 10, 11),
		"C:D:E:F:9:0:10:ff":                 v6(12, 13, 14, 15, 9, 0, 16, 255),
		"::":                                v6(0, 0, 0, 0, 0, 0, 0, 0),
		"::1":                               v6(0, 0, 0, 0, 0, 0, 0, 1),
		"::7:8":                             v6(0, 0, 0, 0, 0, 0, 7, 8),
		"::2:3:4:5:6:7:8":                   v6(0, 2, 3, 4, 5, 6, 7, 8),
		"1::":                               v6(1, 0, 0, 0, 0, 0, 0, 0),
		"1:2::":                             v6(1, 2, 0, 0, 0, 0, 0, 0),
		"1:2:3:4:5:6:7::":                   v6(1, 2, 3, 4, 5, 6, 7, 0),
		"1::8":                              v6(1, 0, 0, 0, 0, 0, 0, 8),
		"1:2::7:8":                          v6(1, 2, 0, 0, 0, 0, 7, 8),
		"1:2:3::5:6:7:8":                    v6(1, 2, 3, 0, 5, 6, 7, 8),
		"1:2:3:4:5:6::8":                    v6(1, 2, 3, 4, 5, 6, 0, 8),
		"0::0":                              v6(0, 0, 0, 0, 0, 0, 0, 0),
		"0:0::1":                            v6(0, 0, 0, 0, 0, 0, 0, 1),
		"1:2:3:4:5:6:1.2.3.4":               v6(1, 2, 3, 4, 5, 6, 0x102, 0x304),
		"::1.2.3.4":                         v6(0, 0, 0, 0, 0, 0, 0x102, 0x304),
		"::ffff:192.0.2.255":                v6(0, 0, 0, 0, 0, 0xffff, 0xc000, 0x2ff),
		"1::1.2.3.4":                        v6(1, 0, 0, 0, 0, 0, 0x102, 0x304),
		"1:2:3:4:5::0.0.0.0":                v6(1, 2, 3, 4, 5, 0, 0, 0),
		"::2:3:4:5:6:1.2.3.4":               v6(0, 2, 3, 4, 5, 6, 0x102, 0x304),
		"ffff:ffff:ffff:ffff:ffff:ffff:255.255.255.255": strings.Repeat("\xff", 16),
	} {
		if got, code := impl.ReadV6(s); got != want || code != impl.OK {
			t.Errorf("ReadV6(%q) = %q, %d", s, got, code)
		}
	}
	for _, s := range noV6() {
		if got, code := impl.ReadV6(s); got != "" || code != impl.ErrData {
			t.Errorf("ReadV6(%.300q) = %q, %d", s, got, code)
		}
	}
}

// Every byte as the only digit of a group.
func TestReadV6Digits(t *testing.T) {
	for n := range 256 {
		s := "::" + string([]byte{byte(n)})
		want, wantCode := "", int64(impl.ErrData)
		if value, err := strconv.ParseUint(s[2:], 16, 8); err == nil {
			want, wantCode = v6(0, 0, 0, 0, 0, 0, 0, int(value)), impl.OK
		}
		if got, code := impl.ReadV6(s); got != want || code != wantCode {
			t.Errorf("ReadV6(%q) = %q, %d", s, got, code)
		}
	}
}

// Texts put together of pieces at random, held against the library's reader of addresses.
func TestReadV6Pieces(t *testing.T) {
	pieces := []string{":", ":", ":", ":", "::", "0", "1", "ab", "FFFF", "12345", "1.2.3.4", "1.2.3", "01.2.3.4", "g"}
	r := rand.New(rand.NewSource(13))
	taken := 0
	for range 300000 {
		s := ""
		for range r.Intn(17) {
			if r.Intn(3) > 0 {
				s += pieces[r.Intn(9)]
			} else {
				s += pieces[r.Intn(len(pieces))]
			}
		}
		want, wantCode := "", int64(impl.ErrData)
		if a, err := netip.ParseAddr(s); err == nil && strings.Contains(s, ":") {
			b := a.As16()
			want, wantCode = string(b[:]), impl.OK
			taken++
		}
		if got, code := impl.ReadV6(s); got != want || code != wantCode {
			t.Errorf("ReadV6(%q) = %q, %d, not %q, %d", s, got, code, want, wantCode)
		}
	}
	if taken < 1000 {
		t.Errorf("only %d of the texts are addresses", taken)
	}
}

func TestShowV6(t *testing.T) {
	for data, want := range map[string]string{
		v6(0x2001, 0xdb8, 0, 0, 0, 0, 0, 1):                  "2001:db8::1",
		v6(0, 0, 0, 0, 0, 0, 0, 0):                           "::",
		v6(0, 0, 0, 0, 0, 0, 0, 1):                           "::1",
		v6(1, 0, 0, 0, 0, 0, 0, 0):                           "1::",
		v6(0, 1, 2, 3, 4, 5, 6, 7):                           "0:1:2:3:4:5:6:7",
		v6(1, 2, 3, 4, 5, 6, 7, 0):                           "1:2:3:4:5:6:7:0",
		v6(1, 0, 2, 3, 4, 5, 6, 7):                           "1:0:2:3:4:5:6:7",
		v6(0, 1, 0, 1, 0, 1, 0, 1):                           "0:1:0:1:0:1:0:1",
		v6(0, 0, 1, 2, 3, 4, 5, 6):                           "::1:2:3:4:5:6",
		v6(1, 2, 3, 4, 5, 6, 0, 0):                           "1:2:3:4:5:6::",
		v6(1, 2, 3, 0, 0, 4, 5, 6):                           "1:2:3::4:5:6",
		v6(1, 0, 0, 2, 0, 0, 3, 4):                           "1::2:0:0:3:4",
		v6(0, 0, 1, 0, 0, 1, 0, 0):                           "::1:0:0:1:0:0",
		v6(1, 0, 0, 2, 0, 0, 0, 3):                           "1:0:0:2::3",
		v6(0, 0, 1, 0, 0, 0, 2, 3):                           "0:0:1::2:3",
		v6(0, 0, 1, 2, 3, 0, 0, 0):                           "0:0:1:2:3::",
		v6(0, 0, 0, 1, 2, 0, 0, 0):                           "::1:2:0:0:0",
		v6(0, 0, 0, 0, 1, 0, 0, 0):                           "::1:0:0:0",
		v6(0, 0, 0, 1, 0, 0, 0, 0):                           "0:0:0:1::",
		v6(0xffff, 0xabc, 0xf0, 0xf000, 0x10, 0x100, 9, 0xa): "ffff:abc:f0:f000:10:100:9:a",
		v6(0, 0, 0, 0, 0, 0xffff, 0xc000, 0x201):             "::ffff:c000:201",
		v6(0, 0, 0, 0, 0, 0, 0x102, 0x304):                   "::102:304",
	} {
		if got, code := impl.ShowV6(data); got != want || code != impl.OK {
			t.Errorf("ShowV6(%q) = %q, %d, not %q", data, got, code, want)
		}
	}
	for _, size := range []int{0, 1, 4, 15, 17, 32, 272, 1000000} {
		if got, code := impl.ShowV6(strings.Repeat("a", size)); got != "" || code != impl.ErrData {
			t.Errorf("ShowV6 of %d bytes = %q, %d", size, got, code)
		}
	}
}

// Every way in which groups may be 0, held against the library's writer of addresses.
func TestShowV6Gaps(t *testing.T) {
	for mask := range 256 {
		for _, value := range []int{1, 0x10, 0xab0, 0xfedc} {
			var groups []int
			for i := range 8 {
				groups = append(groups, mask>>i&1*value)
			}
			data := v6(groups...)
			want := netip.AddrFrom16([16]byte([]byte(data))).String()
			if got, code := impl.ShowV6(data); got != want || code != impl.OK {
				t.Errorf("ShowV6(%q) = %q, %d, not %q", data, got, code, want)
			}
		}
	}
}
