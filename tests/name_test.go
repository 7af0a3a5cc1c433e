package tests

import (
	"math"
	"math/rand"
	"slices"
	"strings"
	"testing"

	"loop.example/s01858/impl"
)

// isName says the sentence of chapter 2 once more.
func isName(s string) bool {
	if len(s) > 255 {
		return false
	}
	for len(s) > 1 {
		n := int(s[0])
		if n == 0 || n > 63 || n+1 > len(s) {
			return false
		}
		s = s[n+1:]
	}
	return s == root
}

func TestNameOK(t *testing.T) {
	for _, name := range someNames() {
		if !impl.NameOK(name) {
			t.Errorf("NameOK(%q) = false", name)
		}
	}
	for _, name := range noNames() {
		if impl.NameOK(name) {
			t.Errorf("NameOK(%.300q) = true", name)
		}
	}
}

// Every string of up to five bytes out of those that tell a length, or just miss to.
func TestNameOKSmall(t *testing.T) {
	list := []string{""}
	for range 5 {
		var next []string
		for _, s := range list {
			for _, c := range []byte{0, 1, 2, 3, 'a', 192} {
				next = append(next, s+string([]byte{c}))
			}
		}
		for _, s := range next {
			if got := impl.NameOK(s); got != isName(s) {
				t.Errorf("NameOK(%q) = %v", s, got)
			}
		}
		list = next
	}
}

func TestNameOKLengthByte(t *testing.T) {
	for n := range 256 {
		name := string([]byte{byte(n)}) + strings.Repeat("a", n) + root
		if got, want := impl.NameOK(name), n >= 1 && n <= 63; got != want {
			t.Errorf("NameOK of a label of %d bytes = %v", n, got)
		}
	}
}

func TestLabels(t *testing.T) {
	for _, c := range []struct {
		name string
		want []string
	}{
		{root, nil},
		{nm("a"), []string{"a"}},
		{nm("www", "Example"), []string{"www", "Example"}},
		{nm("a.b", "\x00", "\x01a"), []string{"a.b", "\x00", "\x01a"}},
		{nm(strings.Repeat("x", 63), "y"), []string{strings.Repeat("x", 63), "y"}},
		{nm(times(127, "b")...), times(127, "b")},
	} {
		if got := impl.Labels(c.name); !slices.Equal(got, c.want) {
			t.Errorf("Labels(%q) = %q", c.name, got)
		}
	}
	for _, name := range noNames() {
		if got := impl.Labels(name); len(got) != 0 {
			t.Errorf("Labels(%.300q) = %.300q", name, got)
		}
	}
}

func TestMakeName(t *testing.T) {
	long, longer := strings.Repeat("n", 63), strings.Repeat("n", 64)
	for _, c := range []struct {
		about  string
		labels []string
		want   string
		code   int64
	}{
		{"nil", nil, root, impl.OK},
		{"none", []string{}, root, impl.OK},
		{"two", []string{"www", "Example"}, nm("www", "Example"), impl.OK},
		{"any bytes", []string{"\x00.", "\xff"}, nm("\x00.", "\xff"), impl.OK},
		{"63 bytes", []string{long}, nm(long), impl.OK},
		{"64 bytes", []string{longer}, "", impl.ErrLabel},
		{"64 bytes, the last", []string{"a", longer}, "", impl.ErrLabel},
		{"300 bytes", []string{strings.Repeat("n", 300)}, "", impl.ErrLabel},
		{"no byte", []string{""}, "", impl.ErrLabel},
		{"no byte in the middle", []string{"a", "", "b"}, "", impl.ErrLabel},
		{"no byte at the end", []string{"a", ""}, "", impl.ErrLabel},
		{"127 labels", times(127, "b"), nm(times(127, "b")...), impl.OK},
		{"128 labels", times(128, "b"), "", impl.ErrLong},
		{"128 labels, one empty", append(times(127, "b"), ""), "", impl.ErrLong},
		{"128 empty labels", times(128, ""), "", impl.ErrLong},
		{"127 labels, the last empty", append(times(126, "b"), ""), "", impl.ErrLabel},
		{"127 labels, one of 2 bytes", append(times(126, "b"), "bb"), "", impl.ErrLong},
		{"too long, and an ill label behind", append(times(5, long), ""), "", impl.ErrLabel},
		{"too long, and a long label behind", append(times(5, long), longer), "", impl.ErrLabel},
		{"255 bytes", []string{long, long, long, strings.Repeat("m", 61)}, nameOf(255), impl.OK},
		{"256 bytes", []string{long, long, long, strings.Repeat("m", 62)}, "", impl.ErrLong},
	} {
		got, code := impl.MakeName(c.labels)
		if got != c.want || code != c.code {
			t.Errorf("MakeName of %s = %q, %d", c.about, got, code)
		}
	}
	for _, name := range someNames() {
		if got, code := impl.MakeName(impl.Labels(name)); got != name || code != impl.OK {
			t.Errorf("MakeName(Labels(%q)) = %q, %d", name, got, code)
		}
	}
}

func TestFoldName(t *testing.T) {
	for name, want := range map[string]string{
		root:                     root,
		nm("ABC", "xYz"):         nm("abc", "xyz"),
		nm("AZ@[`{az"):           nm("az@[`{az"),
		nm("\xc9\xc3\x89\xde"):   nm("\xc9\xc3\x89\xde"),
		nm("\xe2\x84\xaa", "K"):  nm("\xe2\x84\xaa", "k"),
		nm("\xc4\xb0", "I", "1"): nm("\xc4\xb0", "i", "1"),
	} {
		if got := impl.FoldName(name); got != want {
			t.Errorf("FoldName(%q) = %q", name, got)
		}
	}
	for c := range 256 {
		want := byte(c)
		if want >= 'A' && want <= 'Z' {
			want += 32
		}
		if got := impl.FoldName(nm(string([]byte{byte(c)}))); got != nm(string([]byte{want})) {
			t.Errorf("FoldName of the byte %d = %q", c, got)
		}
	}
	for _, name := range noNames() {
		if got := impl.FoldName(name); got != "" {
			t.Errorf("FoldName(%.300q) = %.300q", name, got)
		}
	}
}

func TestSameName(t *testing.T) {
	for _, c := range []struct {
		a, b string
		want bool
	}{
		{root, root, true},
		{nm("www", "EXAMPLE"), nm("WWW", "example"), true},
		{nm("www", "example"), nm("ww", "example"), false},
		{nm("www"), nm("www", "example"), false},
		{nm("a.b"), nm("a", "b"), false},
		{nm("@"), nm("`"), false},
		{nm("["), nm("{"), false},
		{nm("\xc9"), nm("\xe9"), false},
		{nm("a"), root, false},
	} {
		if got := impl.SameName(c.a, c.b); got != c.want {
			t.Errorf("SameName(%q, %q) = %v", c.a, c.b, got)
		}
		if got := impl.SameName(c.b, c.a); got != c.want {
			t.Errorf("SameName(%q, %q) = %v", c.b, c.a, got)
		}
	}
	for _, bad := range noNames() {
		if impl.SameName(bad, bad) || impl.SameName(bad, nm("a")) || impl.SameName(nm("a"), bad) {
			t.Errorf("SameName with %.300q", bad)
		}
	}
}

func TestIsUnder(t *testing.T) {
	ex := nm("example")
	for _, c := range []struct {
		name, above string
		want        bool
	}{
		{root, root, true},
		{ex, root, true},
		{root, ex, false},
		{ex, nm("EXAMPLE"), true},
		{nm("www", "eXample"), ex, true},
		{nm("a", "b", "www", "example"), nm("WWW", "example"), true},
		{ex, nm("www", "example"), false},
		{nm("www", "other"), ex, false},
		{nm("myexample"), ex, false},
		{nm("x\x07example"), ex, false},
		{nm("example", "www"), ex, false},
		{nm("a", "b"), nm("a", "c"), false},
		{nm("b", "c"), nm("a", "c"), false},
		{nm("a["), nm("a{"), false},
		{nm(times(127, "b")...), nm(times(127, "B")...), true},
		{nm(times(127, "b")...), nm(times(126, "B")...), true},
		{nm(times(126, "b")...), nm(times(127, "B")...), false},
	} {
		if got := impl.IsUnder(c.name, c.above); got != c.want {
			t.Errorf("IsUnder(%q, %q) = %v", c.name, c.above, got)
		}
	}
	for _, bad := range noNames() {
		if impl.IsUnder(bad, bad) || impl.IsUnder(bad, root) || impl.IsUnder(nm("a"), bad) {
			t.Errorf("IsUnder with %.300q", bad)
		}
	}
}

// IsUnder is what the parents of a name, one by one, say of it.
func TestIsUnderByParents(t *testing.T) {
	r := rand.New(rand.NewSource(1))
	for range 4000 {
		name, above := someName(r, 4), someName(r, 2)
		if r.Intn(2) == 0 {
			labels := impl.Labels(name)
			above = strings.ToUpper(nm(labels[r.Intn(len(labels)+1):]...))
		}
		if !isName(above) {
			continue
		}
		want := false
		labels := impl.Labels(name)
		for i := range len(labels) + 1 {
			want = want || impl.SameName(nm(labels[i:]...), above)
		}
		if got := impl.IsUnder(name, above); got != want {
			t.Errorf("IsUnder(%q, %q) = %v", name, above, got)
		}
	}
}

func TestAncestor(t *testing.T) {
	name := nm("A", "b", "example")
	for _, c := range []struct {
		name string
		n    int64
		want string
		code int64
	}{
		{name, 0, name, impl.OK},
		{name, 1, nm("b", "example"), impl.OK},
		{name, 2, nm("example"), impl.OK},
		{name, 3, root, impl.OK},
		{name, 4, "", impl.ErrForm},
		{name, -1, "", impl.ErrForm},
		{name, math.MaxInt64, "", impl.ErrForm},
		{name, math.MinInt64, "", impl.ErrForm},
		{name, 1 << 32, "", impl.ErrForm},
		{nm("b", "EXAMPLE"), 1, nm("EXAMPLE"), impl.OK},
		{root, 0, root, impl.OK},
		{root, 1, "", impl.ErrForm},
		{nm(times(127, "b")...), 126, nm("b"), impl.OK},
		{nm(times(127, "b")...), 127, root, impl.OK},
		{nm(times(127, "b")...), 128, "", impl.ErrForm},
	} {
		got, code := impl.Ancestor(c.name, c.n)
		if got != c.want || code != c.code {
			t.Errorf("Ancestor(%q, %d) = %q, %d", c.name, c.n, got, code)
		}
	}
	for _, bad := range noNames() {
		if got, code := impl.Ancestor(bad, 0); got != "" || code != impl.ErrForm {
			t.Errorf("Ancestor(%.300q, 0) = %.300q, %d", bad, got, code)
		}
	}
}

func TestReplaceTail(t *testing.T) {
	full := nameOf(255)
	for _, c := range []struct {
		name, from, to string
		want           string
		code           int64
	}{
		{nm("a", "b", "old"), nm("OLD"), nm("New", "example"), nm("a", "b", "New", "example"), impl.OK},
		{nm("A", "old", "example"), nm("old", "example"), nm("x"), nm("A", "x"), impl.OK},
		{nm("a", "old"), nm("old"), root, nm("a"), impl.OK},
		{nm("a", "old"), root, nm("x"), nm("a", "old", "x"), impl.OK},
		{nm("a"), root, root, nm("a"), impl.OK},
		{nm("a", "old"), nm("old"), nm("old"), nm("a", "old"), impl.OK},
		{nm("old"), nm("old"), nm("x"), "", impl.ErrZone},
		{nm("OLD"), nm("old"), nm("x"), "", impl.ErrZone},
		{root, root, nm("x"), "", impl.ErrZone},
		{nm("a", "other"), nm("old"), nm("x"), "", impl.ErrZone},
		{nm("old"), nm("a", "old"), nm("x"), "", impl.ErrZone},
		{nm("x\x03old"), nm("old"), nm("x"), "", impl.ErrZone},
		{nm("a", "old"), nm("old"), nameOf(253), "\x01a" + nameOf(253), impl.OK},
		{nm("a", "old"), nm("old"), nameOf(254), "", impl.ErrLong},
		{nm("a", "old"), nm("old"), full, "", impl.ErrLong},
		{nm(times(127, "b")...), nm("B"), nm("c"), nm(append(times(126, "b"), "c")...), impl.OK},
		{nm(times(127, "b")...), nm("b"), nm("c", "d"), "", impl.ErrLong},
		{nm("a"), nm("old"), full, "", impl.ErrZone},
	} {
		got, code := impl.ReplaceTail(c.name, c.from, c.to)
		if got != c.want || code != c.code {
			t.Errorf("ReplaceTail(%q, %q, %q) = %q, %d", c.name, c.from, c.to, got, code)
		}
	}
	for _, bad := range noNames() {
		for _, c := range [][3]string{
			{bad, nm("old"), nm("x")},
			{nm("a", "old"), bad, nm("x")},
			{nm("a", "old"), nm("old"), bad},
			{nm("a"), nm("old"), bad}, // ErrForm is told ahead of ErrZone
			{bad, bad, bad},
		} {
			if got, code := impl.ReplaceTail(c[0], c[1], c[2]); got != "" || code != impl.ErrForm {
				t.Errorf("ReplaceTail(%.300q) = %.300q, %d", c, got, code)
			}
		}
	}
}
