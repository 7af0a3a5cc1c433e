package tests

import (
	"strconv"
	"strings"
	"testing"

	"loop.example/s01858/impl"
)

type readCase struct {
	text, origin, want string
	code               int64
}

func checkRead(t *testing.T, list []readCase) {
	t.Helper()
	for _, c := range list {
		got, code := impl.ReadName(c.text, c.origin)
		if got != c.want || code != c.code {
			t.Errorf("ReadName(%q, %q) = %q, %d, not %q, %d", c.text, c.origin, got, code, c.want, c.code)
		}
	}
}

func TestReadName(t *testing.T) {
	ex := nm("example")
	checkRead(t, []readCase{
		{"www", ex, nm("www", "example"), impl.OK},
		{"www", nm("Example"), nm("www", "Example"), impl.OK},
		{"WwW.b", ex, nm("WwW", "b", "example"), impl.OK},
		{"www", root, nm("www"), impl.OK},
		{"www.", ex, nm("www"), impl.OK},
		{"www.other.", ex, nm("www", "other"), impl.OK},
		{"www.other.", "", nm("www", "other"), impl.OK},
		{"www", "", "", impl.ErrRelative},
		{"www.other", "", "", impl.ErrRelative},
		{"@", ex, ex, impl.OK},
		{"@", nm("B", "c"), nm("B", "c"), impl.OK},
		{"@", root, root, impl.OK},
		{"@", "", "", impl.ErrRelative},
		{".", ex, root, impl.OK},
		{".", "", root, impl.OK},
		{"", ex, "", impl.ErrName},
		{"", "", "", impl.ErrName},
		{"@.", "", nm("@"), impl.OK},
		{"@a", ex, nm("@a", "example"), impl.OK},
		{"a.@", ex, nm("a", "@", "example"), impl.OK},
		{"\\@", ex, nm("@", "example"), impl.OK},
		{"\\@", "", "", impl.ErrRelative},
		{" ", ex, nm(" ", "example"), impl.OK},
		{"\x00\n\"();$*\xc3\xa9.", "", nm("\x00\n\"();$*\xc3\xa9"), impl.OK},
	})
}

func TestReadNameEscapes(t *testing.T) {
	ex := nm("example")
	checkRead(t, []readCase{
		{"a\\.b.c.", "", nm("a.b", "c"), impl.OK},
		{"a\\\\.", "", nm("a\\"), impl.OK},
		{"\\a.", "", nm("a"), impl.OK},
		{"\\.", ex, nm(".", "example"), impl.OK},
		{"\\.", "", "", impl.ErrRelative},
		{"a\\.", ex, nm("a.", "example"), impl.OK},
		{"a\\.", "", "", impl.ErrRelative},
		{"a\\..", "", nm("a."), impl.OK},
		{"a\\\\\\.", "", "", impl.ErrRelative},
		{"\\046", ex, nm(".", "example"), impl.OK},
		{"\\046", "", "", impl.ErrRelative},
		{"\\046.", "", nm("."), impl.OK},
		{"\\064", ex, nm("@", "example"), impl.OK},
		{"\\000.", "", nm("\x00"), impl.OK},
		{"\\0651.", "", nm("A1"), impl.OK},
		{"\\009\\010\\099\\100\\199\\200.", "", nm("\x09\x0a\x63\x64\xc7\xc8"), impl.OK},
		{"x\\255", ex, nm("x\xff", "example"), impl.OK},
		{"\\256.", "", "", impl.ErrEscape},
		{"x\\256", ex, "", impl.ErrEscape},
		{"\\260.", "", "", impl.ErrEscape},
		{"\\300.", "", "", impl.ErrEscape},
		{"\\512.", "", "", impl.ErrEscape},
		{"\\999.", "", "", impl.ErrEscape},
		{"\\", ex, "", impl.ErrEscape},
		{"a\\", ex, "", impl.ErrEscape},
		{"a\\\\\\", ex, "", impl.ErrEscape},
		{"a.\\", ex, "", impl.ErrEscape},
		{"a\\2", ex, "", impl.ErrEscape},
		{"a\\25", ex, "", impl.ErrEscape},
		{"a\\2.", ex, "", impl.ErrEscape},
		{"a\\25.", ex, "", impl.ErrEscape},
		{"a\\2a5.", ex, "", impl.ErrEscape},
		{"a\\25a.", ex, "", impl.ErrEscape},
		{"a\\2\\05.", ex, "", impl.ErrEscape},
		{"\\a25.", "", nm("a25"), impl.OK},
		{"\\/47.", "", nm("/47"), impl.OK},
		{"\\:00.", "", nm(":00"), impl.OK},
		{"\\0/0.", "", "", impl.ErrEscape},
		{"\\0:0.", "", "", impl.ErrEscape},
		{"\\00/.", "", "", impl.ErrEscape},
		{"\\00:.", "", "", impl.ErrEscape},
		{"\\ \\\x00\\\n\\\xff.", "", nm(" \x00\n\xff"), impl.OK},
	})
}

// Every byte, alone, behind a backslash and by its number.
func TestReadNameBytes(t *testing.T) {
	for n := range 1000 {
		digits := strconv.Itoa(1000 + n)[1:]
		c := readCase{text: "\\" + digits + ".", code: impl.ErrEscape}
		if n < 256 {
			c.want, c.code = nm(string([]byte{byte(n)})), impl.OK
		}
		checkRead(t, []readCase{c})
	}
	for n := range 256 {
		c := string([]byte{byte(n)})
		if c != "." && c != "\\" {
			checkRead(t, []readCase{{c + ".", "", nm(c), impl.OK}})
		}
		if n < '0' || n > '9' {
			checkRead(t, []readCase{{"\\" + c + ".", "", nm(c), impl.OK}})
		}
	}
}

func TestReadNameLimits(t *testing.T) {
	ex := nm("example")
	a63, a64 := strings.Repeat("a", 63), strings.Repeat("a", 64)
	e63, e64 := strings.Repeat("\\097", 63), strings.Repeat("\\097", 64)
	long := strings.Repeat("n", 63)
	three := long + "." + long + "." + long + "."
	checkRead(t, []readCase{
		{a63 + ".", "", nm(a63), impl.OK},
		{a63, ex, nm(a63, "example"), impl.OK},
		{e63 + ".", "", nm(a63), impl.OK},
		{a64 + ".", "", "", impl.ErrLabel},
		{a64, ex, "", impl.ErrLabel},
		{a64, "", "", impl.ErrLabel},
		{e64 + ".", "", "", impl.ErrLabel},
		{"b." + a64 + ".c.", "", "", impl.ErrLabel},
		{strings.Repeat("\\.", 64) + ".", "", "", impl.ErrLabel},
		{strings.Repeat("\\.", 63) + ".", "", nm(strings.Repeat(".", 63)), impl.OK},
		{strings.Repeat("a", 256+5) + ".", "", "", impl.ErrLabel},
		{three + strings.Repeat("m", 61) + ".", "", nameOf(255), impl.OK},
		{three + strings.Repeat("m", 62) + ".", "", "", impl.ErrLong},
		{three + strings.Repeat("m", 61), root, nameOf(255), impl.OK},
		{three + strings.Repeat("m", 62), root, "", impl.ErrLong},
		{three + strings.Repeat("m", 62), "", "", impl.ErrRelative},
		{"a", nameOf(253), "\x01a" + nameOf(253), impl.OK},
		{"a", nameOf(254), "", impl.ErrLong},
		{"a", nameOf(255), "", impl.ErrLong},
		{"a.", nameOf(255), nm("a"), impl.OK},
		{"@", nameOf(255), nameOf(255), impl.OK},
		{strings.Repeat("b.", 127), "", nm(times(127, "b")...), impl.OK},
		{strings.Repeat("b.", 128), "", "", impl.ErrLong},
		{strings.Repeat("b.", 126) + "b", root, nm(times(127, "b")...), impl.OK},
		{strings.Repeat("b.", 126) + "b", nm("b"), "", impl.ErrLong},
		{strings.Repeat("b.", 550), "", "", impl.ErrLong},
	})
}

// No text of 1100 bytes is a name, but a fault in it is told as long as it may be read.
func TestReadNameTextSize(t *testing.T) {
	ex := nm("example")
	relative := strings.Repeat("b.", 549) + "bb"
	checkRead(t, []readCase{
		{"a.." + strings.Repeat("b", 1097), ex, "", impl.ErrLabel},
		{"a.." + strings.Repeat("b", 1098), ex, "", impl.ErrLong},
		{strings.Repeat("b", 1099) + "\\", ex, "", impl.ErrEscape},
		{strings.Repeat("b", 1100) + "\\", ex, "", impl.ErrLong},
		{relative, "", "", impl.ErrRelative},
		{relative, ex, "", impl.ErrLong},
		{"b" + relative, "", "", impl.ErrLong},
		{strings.Repeat("b", 1101), "x", "", impl.ErrForm},
		{strings.Repeat("\\", 1000000), "", "", impl.ErrLong},
	})
}

// Which of several faults is told.
func TestReadNameFirstFault(t *testing.T) {
	ex := nm("example")
	a64 := strings.Repeat("a", 64)
	checkRead(t, []readCase{
		{"a..b.", "", "", impl.ErrLabel},
		{"a..b", ex, "", impl.ErrLabel},
		{"a..b", "", "", impl.ErrLabel},
		{"a..", "", "", impl.ErrLabel},
		{"..", ex, "", impl.ErrLabel},
		{".a", ex, "", impl.ErrLabel},
		{".@", "", "", impl.ErrLabel},
		{"a..\\", ex, "", impl.ErrLabel},
		{"\\256..", ex, "", impl.ErrEscape},
		{"a\\2..", ex, "", impl.ErrEscape},
		{a64 + "\\", ex, "", impl.ErrEscape},
		{a64 + "\\256.", ex, "", impl.ErrEscape},
		{a64 + ".\\256", ex, "", impl.ErrLabel},
		{a64 + "..", ex, "", impl.ErrLabel},
		{"a\\", "", "", impl.ErrEscape},
		{strings.Repeat("b.", 200) + ".", "", "", impl.ErrLabel},
		{strings.Repeat("b.", 200) + "\\", "", "", impl.ErrEscape},
		{strings.Repeat("b.", 200) + "b", "", "", impl.ErrRelative},
	})
	for _, bad := range noNames() {
		if bad == "" {
			continue
		}
		checkRead(t, []readCase{
			{"a", bad, "", impl.ErrForm},
			{"a.", bad, "", impl.ErrForm},
			{"@", bad, "", impl.ErrForm},
			{".", bad, "", impl.ErrForm},
			{"", bad, "", impl.ErrForm},
			{"a\\", bad, "", impl.ErrForm},
			{"a..", bad, "", impl.ErrForm},
		})
	}
}

// piece is a byte of a name's text, or a dot that ends a label.
type piece struct {
	c   byte
	end bool
}

// piecesOf takes the escapes of a text away; false tells that one is ill, behind what could be read.
func piecesOf(text string) ([]piece, bool) {
	var out []piece
	for len(text) > 0 {
		c, rest := text[0], text[1:]
		if c == '\\' {
			if rest == "" {
				return out, false
			}
			c = rest[0]
			if c < '0' || c > '9' {
				out, text = append(out, piece{c, false}), rest[1:]
				continue
			}
			if len(rest) < 3 {
				return out, false
			}
			n, err := strconv.ParseUint(rest[:3], 10, 8)
			if err != nil {
				return out, false
			}
			out, text = append(out, piece{byte(n), false}), rest[3:]
			continue
		}
		out, text = append(out, piece{c, c == '.'}), rest
	}
	return out, true
}

// readAgain is ReadName of a short text once more, in two passes: first the escapes, then the labels.
func readAgain(text, origin string) (string, int64) {
	switch {
	case text == "":
		return "", impl.ErrName
	case text == "." || text == "@" && origin != "":
		return map[string]string{".": root, "@": origin}[text], impl.OK
	case text == "@":
		return "", impl.ErrRelative
	}
	pieces, whole := piecesOf(text)
	out, label := "", ""
	for _, p := range pieces {
		if !p.end {
			label += string([]byte{p.c})
			continue
		}
		if label == "" {
			return "", impl.ErrLabel
		}
		out, label = out+string([]byte{byte(len(label))})+label, ""
	}
	if !whole {
		return "", impl.ErrEscape
	}
	if label == "" {
		return out + root, impl.OK
	}
	if origin == "" {
		return "", impl.ErrRelative
	}
	return out + string([]byte{byte(len(label))}) + label + origin, impl.OK
}

// Every text of up to six bytes out of those that matter.
func TestReadNameSmall(t *testing.T) {
	ex := nm("example")
	var list = []string{""}
	for range 6 {
		var next []string
		for _, s := range list {
			for _, c := range "a.\\256@" {
				next = append(next, s+string(c))
			}
		}
		list = next
		for _, text := range list {
			for _, origin := range []string{"", ex} {
				want, code := readAgain(text, origin)
				checkRead(t, []readCase{{text, origin, want, code}})
			}
		}
	}
}

func TestShowName(t *testing.T) {
	for name, want := range map[string]string{
		root:                            ".",
		nm("www", "Example"):            "www.Example.",
		nm("a.b", "C"):                  "a\\.b.C.",
		nm(".\\\";()@$"):                "\\.\\\\\\\"\\;\\(\\)\\@\\$.",
		nm(" !~\x7f"):                   "\\032!~\\127.",
		nm("\x00\x09\x0a\x1f"):          "\\000\\009\\010\\031.",
		nm("\x63\x64\x80\xc7\xc8\xff"):  "cd\\128\\199\\200\\255.",
		nm("*", "_x", "a-b", "1/2"):     "*._x.a-b.1/2.",
		nm(strings.Repeat("\xff", 63)):  strings.Repeat("\\255", 63) + ".",
		nm(times(127, "b")...):          strings.Repeat("b.", 127),
		nm(strings.Repeat("(", 3), "b"): "\\(\\(\\(.b.",
	} {
		if got, code := impl.ShowName(name); got != want || code != impl.OK {
			t.Errorf("ShowName(%q) = %q, %d", name, got, code)
		}
	}
	for _, bad := range noNames() {
		if got, code := impl.ShowName(bad); got != "" || code != impl.ErrName {
			t.Errorf("ShowName(%.300q) = %.300q, %d", bad, got, code)
		}
	}
}

func TestShowNameBytes(t *testing.T) {
	for n := range 256 {
		c := string([]byte{byte(n)})
		want := c
		if n < 33 || n > 126 {
			want = "\\" + strconv.Itoa(1000 + n)[1:]
		} else if strings.Contains(".\\\";()@$", c) {
			want = "\\" + c
		}
		if got, code := impl.ShowName(nm(c, c)); got != want+"."+want+"." || code != impl.OK {
			t.Errorf("ShowName of the byte %d = %q, %d", n, got, code)
		}
	}
}
