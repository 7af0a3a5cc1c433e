package tests

import (
	"math/rand"
	"strings"

	"loop.example/s01858/impl"
)

// soaTail is the five numbers behind an SOA's names, the serial 258 first.
const soaTail = "\x00\x00\x01\x02" + "\x00\x00\x1c\x20" + "\x00\x00\x03\x84" + "\x00\x01\x51\x80" + "\x00\x00\x01\x2c"

// st is a short text, laid without asking whether it fits.
func st(text string) string { return string([]byte{byte(len(text))}) + text }

// formTypes are the types that have a form of their own.
func formTypes() []int64 {
	return []int64{
		impl.TypeA, impl.TypeAAAA, impl.TypeNS, impl.TypeCNAME, impl.TypePTR, impl.TypeDNAME, impl.TypeMX, impl.TypeSOA,
		impl.TypeSRV, impl.TypeTXT, impl.TypeHINFO, impl.TypeNAPTR, impl.TypeCAA, impl.TypeNSEC,
	}
}

// freeTypes are types that have none.
func freeTypes() []int64 {
	return []int64{0, 3, 4, 7, 14, 17, 27, 29, 34, 36, 38, 40, impl.TypeOPT, 46, 48, 99, 249, impl.TypeTSIG, impl.TypeIXFR, impl.TypeAXFR, 253, 254, impl.TypeANY, 256, 258, 513, 65281, 65534, 65535}
}

// noTypes are numbers that are no types.
func noTypes() []int64 {
	return []int64{-1, 65536, 65537, -65535, 65536 + impl.TypeA, 1 << 32, 1<<32 + 1, -1 << 63, 1<<63 - 1}
}

// someData are data of each form: ordinary ones and those at the edges.
func someData() map[int64][]string {
	names := someNames()
	long := strings.Repeat("x", 255)
	out := map[int64][]string{
		impl.TypeA:     {"\xc0\x00\x02\x01", "\x00\x00\x00\x00", "ABCD"},
		impl.TypeAAAA:  {strings.Repeat("\x00", 16), "0123456789ABCDEF"},
		impl.TypeNS:    names,
		impl.TypeCNAME: names,
		impl.TypePTR:   names,
		impl.TypeDNAME: names,
		impl.TypeTXT:   {"\x00", "\x00\x00\x00", st("a"), st("Ab") + st("c"), st(long), st(long) + st("") + st(long), strings.Repeat("\x00", 65535), strings.Repeat(st(long), 255) + st(long[:254])},
		impl.TypeHINFO: {"\x00\x00", st("PC") + st("Linux"), st(long) + st(long), st("") + st("x"), st("x") + st("")},
		impl.TypeCAA:   {"\x00\x05issue", "\x80\x05issueca.example", "\x00\x01a", "\xff\x0f123456789012345X", "\x00\x0fABCXYZabcxyz019\x00\xff", "\x00\x01z" + strings.Repeat("\xff", 65532)},
	}
	for _, name := range names {
		out[impl.TypeMX] = append(out[impl.TypeMX], "\x00\x0a"+name)
		out[impl.TypeSRV] = append(out[impl.TypeSRV], "\x00\x01AB\x1f\x90"+name)
		out[impl.TypeSOA] = append(out[impl.TypeSOA], name+nm("Admin", "example")+soaTail, nm("NS1")+name+soaTail)
		out[impl.TypeNAPTR] = append(out[impl.TypeNAPTR], "\x00\x01\x00\x02"+st("U")+st("E2U+sip")+st("!^.*$!sip:A@b!")+name, "ABCD\x00\x00\x00"+name)
		out[impl.TypeNSEC] = append(out[impl.TypeNSEC], name, name+"\x00\x06\x40\x01\x00\x00\x00\x03")
	}
	out[impl.TypeNSEC] = append(out[impl.TypeNSEC], root+allTypesMap())
	for _, rtype := range freeTypes() {
		out[rtype] = []string{"", "\x00", "ABCabc", nm("ABC"), strings.Repeat("\xff", 65535)}
	}
	return out
}

// allTypesMap is the type map of all types.
func allTypesMap() string {
	out := ""
	for w := range 256 {
		out += string([]byte{byte(w), 32}) + strings.Repeat("\xff", 32)
	}
	return out
}

// formText tells a form by a letter a piece: N a name, T a short text, M texts, G a tag, W a type map, R the rest,
// and a digit for as many bytes.
func formText(rtype int64) string {
	return map[int64]string{
		impl.TypeA: "4", impl.TypeAAAA: "88", impl.TypeNS: "N", impl.TypeCNAME: "N", impl.TypePTR: "N", impl.TypeDNAME: "N",
		impl.TypeMX: "2N", impl.TypeSOA: "NN992", impl.TypeSRV: "6N", impl.TypeTXT: "TM", impl.TypeHINFO: "TT",
		impl.TypeNAPTR: "4TTTN", impl.TypeCAA: "1GR", impl.TypeNSEC: "NW",
	}[rtype]
}

// isPiece says of a stretch whether it is just such a piece.
func isPiece(kind byte, s string) bool {
	isText := s != "" && int(s[0]) == len(s)-1
	switch kind {
	case 'N':
		return isName(s)
	case 'T':
		return isText
	case 'M':
		return s == "" || anySplit("TM", s, nil)
	case 'G':
		return isText && len(s) >= 2 && len(s) <= 16 && strings.Trim(s[1:], "0123456789abcdefghijklmnopqrstuvwxyzABCDEFGHIJKLMNOPQRSTUVWXYZ") == ""
	case 'W':
		return isTypeMap(s)
	case 'R':
		return true
	}
	return len(s) == int(kind-'0')
}

// anySplit tries every way to cut data into the pieces of a form, and tells where the names of one that fits stand.
func anySplit(form, data string, names *[]impl.Span) bool {
	return splitFrom(form, data, 0, names)
}

func splitFrom(form, data string, at int, names *[]impl.Span) bool {
	if form == "" {
		return data == ""
	}
	for k := range len(data) + 1 {
		if !isPiece(form[0], data[:k]) || !splitFrom(form[1:], data[k:], at+k, names) {
			continue
		}
		if form[0] == 'N' && names != nil {
			*names = append([]impl.Span{{From: int64(at), To: int64(at + k)}}, *names...)
		}
		return true
	}
	return false
}

// isTypeMap says the sentence of chapter 3 once more.
func isTypeMap(s string) bool {
	for last := -1; s != ""; {
		if len(s) < 3 || int(s[0]) <= last || s[1] == 0 || s[1] > 32 || len(s) < 2+int(s[1]) || s[1+s[1]] == 0 {
			return false
		}
		last, s = int(s[0]), s[2+s[1]:]
	}
	return true
}

// isData says of short data whether it is of the type's form.
func isData(rtype int64, data string) bool {
	form := formText(rtype)
	return form == "" || anySplit(form, data, nil)
}

// someDataOf makes data of the type's form.
func someDataOf(r *rand.Rand, rtype int64) string {
	text := func() string {
		b := make([]byte, r.Intn(5))
		r.Read(b)
		if r.Intn(20) == 0 {
			b = append(b, strings.Repeat("Q\"\\", 80)...)
		}
		return st(string(b))
	}
	name := func() string {
		if r.Intn(3) == 0 {
			return anyName(r)
		}
		return someName(r, 4)
	}
	some := func(n int) string {
		b := make([]byte, n)
		r.Read(b)
		return string(b)
	}
	out := ""
	for _, kind := range []byte(formText(rtype)) {
		switch kind {
		case 'N':
			out += name()
		case 'T':
			out += text()
		case 'M':
			for range r.Intn(3) {
				out += text()
			}
		case 'G':
			out += st("aZ09bcdefghijklmn"[:1+r.Intn(15)])
		case 'W':
			out += someMap(r)
		case 'R':
			out += some(r.Intn(9))
		default:
			out += some(int(kind - '0'))
		}
	}
	if formText(rtype) == "" {
		out = some(r.Intn(9))
	}
	return out
}

// someMap makes a type map, laid block by block.
func someMap(r *rand.Rand) string {
	out := ""
	for w := range 256 {
		if r.Intn(100) != 0 && (w != 0 || r.Intn(2) == 0) {
			continue
		}
		b := make([]byte, 1+r.Intn(32))
		r.Read(b)
		b[len(b)-1] |= 1
		out += string([]byte{byte(w), byte(len(b))}) + string(b)
	}
	return out
}
