package tests

import (
	"math"
	"math/rand"
	"slices"
	"strings"
	"testing"

	"loop.example/s01858/impl"
)

// zeroUnlessOK: beside a code other than OK stands the empty string, beside OK a name.
func zeroUnlessOK(t *testing.T, call, answer string, code int64) {
	t.Helper()
	if code == impl.OK && !isName(answer) || code != impl.OK && answer != "" {
		t.Errorf("%s answered %.300q, %d", call, answer, code)
	}
}

// callNames calls every function of chapter 2 with three strings and a number.
func callNames(t *testing.T, a, b, c string, n int64) {
	t.Helper()
	if impl.NameOK(a) != isName(a) {
		t.Errorf("NameOK(%.300q) = %v", a, !isName(a))
	}
	if !isName(a) && (len(impl.Labels(a)) > 0 || impl.FoldName(a) != "") {
		t.Errorf("labels or folded letters of %.300q, which is no name", a)
	}
	if !(isName(a) && isName(b)) && (impl.SameName(a, b) || impl.IsUnder(a, b) || impl.CompareNames(a, b) != 0) {
		t.Errorf("%.300q and %.300q are held to be names", a, b)
	}
	name, code := impl.MakeName([]string{a, b, c})
	zeroUnlessOK(t, "MakeName", name, code)
	name, code = impl.Ancestor(a, n)
	zeroUnlessOK(t, "Ancestor", name, code)
	name, code = impl.ReplaceTail(a, b, c)
	zeroUnlessOK(t, "ReplaceTail", name, code)
	name, code = impl.ReadName(a, b)
	zeroUnlessOK(t, "ReadName", name, code)
	text, code := impl.ShowName(a)
	if isName(a) != (code == impl.OK) || (text == "") != (code != impl.OK) {
		t.Errorf("ShowName(%.300q) = %.300q, %d", a, text, code)
	}
}

// P1: no call panics, and every call ends.
func TestP1Names(t *testing.T) {
	list := append(noNames(), someNames()...)
	list = append(list, "a", "a.", "\\", "a\\", "\\999", "@", ".", "..", strings.Repeat(".", 1100), strings.Repeat("\\", 1101))
	numbers := []int64{0, 1, -1, 127, 128, math.MaxInt64, math.MinInt64}
	for i, a := range list {
		for k, b := range list {
			callNames(t, a, b, list[(i*7+k)%len(list)], numbers[(i+k)%len(numbers)])
		}
	}
	r := rand.New(rand.NewSource(2))
	for range 20000 {
		var s [3]string
		for i := range s {
			b := make([]byte, r.Intn(12))
			for k := range b {
				b[k] = "\x00\x01\x02\x03aA.\\019@\xc0\xff?"[r.Intn(15)]
			}
			s[i] = string(b)
		}
		callNames(t, s[0], s[1], s[2], int64(r.Intn(6)-2))
	}
	for _, labels := range [][]string{times(127, ""), times(1000000, "a"), times(3, strings.Repeat("a", 1000000))} {
		name, code := impl.MakeName(labels)
		zeroUnlessOK(t, "MakeName", name, code)
	}
}

// P1: nothing is written into an argument, nor behind it into memory that belongs to its owner.
func TestP1NamesLeaveArguments(t *testing.T) {
	for _, all := range [][]string{
		{"WWW", "Example", "left", "alone"},
		{"a", "", "left", "alone"},
		{"a", strings.Repeat("b", 64), "left", "alone"},
	} {
		before := slices.Clone(all)
		impl.MakeName(all[:2])
		if !slices.Equal(all, before) {
			t.Errorf("MakeName made %q of %q", all, before)
		}
	}
}

// P1: an answer is new memory.
func TestP1LabelsAreNew(t *testing.T) {
	name := nm("www", "b", "example")
	first, second := impl.Labels(name), impl.Labels(name)
	first[0] = "changed"
	_ = append(first[:1], "changed")
	if want := []string{"www", "b", "example"}; !slices.Equal(second, want) || !slices.Equal(impl.Labels(name), want) {
		t.Errorf("one answer shows in another: %q", second)
	}
	labels := []string{"www", "example"}
	made, _ := impl.MakeName(labels)
	labels[0] = "changed"
	if made != nm("www", "example") {
		t.Errorf("MakeName's answer became %q", made)
	}
}

// P2: what ShowName writes ReadName reads, whatever the origin.
func TestP2ShowAndRead(t *testing.T) {
	list := someNames()
	for n := range 256 {
		c := string([]byte{byte(n)})
		list = append(list, nm(c), nm(c+"1", "2"+c, c+c+"09"), nm(strings.Repeat(c, 63), strings.Repeat(c, 63), strings.Repeat(c, 63), strings.Repeat(c, 61)))
	}
	r := rand.New(rand.NewSource(3))
	for range 5000 {
		list = append(list, anyName(r), someName(r, 6))
	}
	for _, name := range list {
		text, code := impl.ShowName(name)
		if code != impl.OK {
			t.Errorf("ShowName(%q) = %d", name, code)
		}
		for _, origin := range []string{"", root, nm("example"), nameOf(255)} {
			if got, code := impl.ReadName(text, origin); got != name || code != impl.OK {
				t.Errorf("ReadName(%q, %q) = %q, %d", text, origin, got, code)
			}
		}
	}
}

// orderKey is a list that orders as chapter 2 orders names: the last label first, in small letters.
func orderKey(name string) []string {
	var out []string
	for s := name; s != root; s = s[1+s[0]:] {
		label := []byte(s[1 : 1+s[0]])
		for i, c := range label {
			if c >= 'A' && c <= 'Z' {
				label[i] = c + 32
			}
		}
		out = append(out, string(label))
	}
	slices.Reverse(out)
	return out
}

func TestCompareNames(t *testing.T) {
	// The names of each list are in their order.
	for _, list := range [][]string{
		{root, nm("example"), nm("a", "EXAMPLE"), nm("yljkjljk", "a", "example"), nm("Z", "a", "example"), nm("zABC", "a", "EXAMPLE"), nm("z", "example"), nm("\x01", "z", "example"), nm("*", "z", "example"), nm("\xc8", "z", "example")},
		{nm("z", "a"), nm("a", "b")},
		{nm("a"), nm("a\x00"), nm("aa"), nm("ab"), nm("b")},
		{nm("@"), nm("["), nm("_"), nm("`"), nm("A"), nm("b"), nm("Y"), nm("z"), nm("{"), nm("\x7f"), nm("\x80"), nm("\xc9"), nm("\xe9"), nm("\xff")},
		{nm("x", "abc"), nm("abcd")},
		{nm("bb"), nm("c"), nm("ca")},
		{nm("a"), nm(times(127, "a")...), nm("aa")},
	} {
		for i := range list {
			for k := range list {
				want := int64(0)
				if i < k {
					want = -1
				} else if i > k {
					want = 1
				}
				if got := impl.CompareNames(list[i], list[k]); got != want {
					t.Errorf("CompareNames(%q, %q) = %d", list[i], list[k], got)
				}
			}
		}
	}
	for _, bad := range noNames() {
		for _, name := range someNames() {
			if impl.CompareNames(bad, name) != 0 || impl.CompareNames(name, bad) != 0 || impl.CompareNames(bad, bad) != 0 {
				t.Errorf("CompareNames with %.300q", bad)
			}
		}
	}
}

// P2: CompareNames is an order, and 0 just for names that are the same.
func TestP2Order(t *testing.T) {
	r := rand.New(rand.NewSource(4))
	list := someNames()
	for range 300 {
		list = append(list, someName(r, 3))
	}
	for _, a := range list {
		for _, b := range list {
			got := impl.CompareNames(a, b)
			if want := int64(slices.Compare(orderKey(a), orderKey(b))); got != want {
				t.Errorf("CompareNames(%q, %q) = %d", a, b, got)
			}
			if back := impl.CompareNames(b, a); back != -got {
				t.Errorf("CompareNames(%q, %q) = %d, the other way %d", a, b, got, back)
			}
			if (got == 0) != impl.SameName(a, b) || (got == 0) != (impl.FoldName(a) == impl.FoldName(b)) {
				t.Errorf("CompareNames(%q, %q) = %d, SameName %v", a, b, got, impl.SameName(a, b))
			}
		}
	}
	slices.SortFunc(list, func(a, b string) int { return int(impl.CompareNames(a, b)) })
	for i := range list {
		for k := range i {
			if impl.CompareNames(list[k], list[i]) > 0 {
				t.Errorf("no order: %q, %q", list[k], list[i])
			}
		}
	}
}

// P2: an ancestor comes ahead of all names under it.
func TestP2Ancestors(t *testing.T) {
	r := rand.New(rand.NewSource(5))
	list := someNames()
	for range 2000 {
		list = append(list, someName(r, 5), anyName(r))
	}
	for _, name := range list {
		count := int64(len(impl.Labels(name)))
		for n := range count + 1 {
			above, code := impl.Ancestor(name, n)
			if code != impl.OK || !impl.IsUnder(name, above) || int64(len(impl.Labels(above))) != count-n {
				t.Errorf("Ancestor(%q, %d) = %q, %d", name, n, above, code)
			}
			want := int64(-1)
			if n == 0 {
				want = 0
			}
			if got := impl.CompareNames(above, name); got != want {
				t.Errorf("CompareNames(%q, %q) = %d", above, name, got)
			}
		}
	}
}

// P3: what ReplaceTail answers is under its third argument, and put back it is the name again.
func TestP3ReplaceTail(t *testing.T) {
	r := rand.New(rand.NewSource(6))
	done, long := 0, 0
	for range 20000 {
		name, to := someName(r, 5), someName(r, 3)
		if r.Intn(4) == 0 {
			name, to = anyName(r), anyName(r)
		}
		labels := impl.Labels(name)
		if len(labels) == 0 {
			continue
		}
		keep := 1 + r.Intn(len(labels))
		from := nm(labels[keep:]...)
		if r.Intn(2) == 0 {
			from = impl.FoldName(from)
		}
		want := nm(slices.Concat(labels[:keep], impl.Labels(to))...)
		got, code := impl.ReplaceTail(name, from, to)
		if len(want) > 255 {
			long++
			if got != "" || code != impl.ErrLong {
				t.Errorf("ReplaceTail(%q, %q, %q) = %q, %d", name, from, to, got, code)
			}
			continue
		}
		done++
		if got != want || code != impl.OK || !impl.IsUnder(got, to) || impl.SameName(got, to) {
			t.Errorf("ReplaceTail(%q, %q, %q) = %q, %d", name, from, to, got, code)
		}
		back, code := impl.ReplaceTail(got, to, from)
		if impl.FoldName(back) != impl.FoldName(name) || code != impl.OK {
			t.Errorf("ReplaceTail(%q, %q, %q) = %q, %d", got, to, from, back, code)
		}
	}
	if done < 1000 || long < 100 {
		t.Errorf("only %d names were put elsewhere, %d were too long", done, long)
	}
}

// P3: a name that is not strictly under the second argument is not put anywhere.
func TestP3OnlyFromUnder(t *testing.T) {
	r := rand.New(rand.NewSource(7))
	for range 20000 {
		name, from, to := someName(r, 3), someName(r, 2), someName(r, 2)
		_, code := impl.ReplaceTail(name, from, to)
		strictly := impl.IsUnder(name, from) && !impl.SameName(name, from)
		if strictly != (code == impl.OK) || !strictly && code != impl.ErrZone {
			t.Errorf("ReplaceTail(%q, %q, %q) = %d", name, from, to, code)
		}
	}
}
