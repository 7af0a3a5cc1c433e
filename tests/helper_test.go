package tests

import (
	"math/rand"
	"strings"
)

const root = "\x00"

// nm is the name of some labels, laid without asking whether they fit.
func nm(labels ...string) string {
	out := ""
	for _, l := range labels {
		out += string([]byte{byte(len(l))}) + l
	}
	return out + root
}

// times is a list of n texts that are the same.
func times(n int, text string) []string {
	var out []string
	for range n {
		out = append(out, text)
	}
	return out
}

// nameOf is a name of that many bytes (from 193 to 257) whose first three labels have 63.
func nameOf(size int) string {
	long := strings.Repeat("n", 63)
	if size == 193 {
		return nm(long, long, long)
	}
	return nm(long, long, long, strings.Repeat("m", size-194))
}

// noNames are strings that are no names, each in another way.
func noNames() []string {
	return []string{
		"",
		"\x01",
		"a",
		"\x01a",
		"\x02a\x00",
		"\x03ab\x00",
		"\x01a\x00\x00",
		"\x00\x00",
		"\x00\x01a\x00",
		"\x01a\x00b",
		nm("a") + "x",
		nm(strings.Repeat("a", 64)),
		"\xc0\x0c",
		"\x01a\xc0\x0c",
		"\xff" + strings.Repeat("a", 255) + root,
		nameOf(256),
		nameOf(257),
		nm(times(128, "a")...),
		strings.Repeat(root, 255),
		strings.Repeat("\x01a", 500000) + root,
		strings.Repeat("\xff", 300),
	}
}

// someNames are names: ordinary ones and those at the edges.
func someNames() []string {
	return []string{
		root,
		nm("a"),
		nm("A"),
		nm("example"),
		nm("EXAMPLE"),
		nm("www", "example"),
		nm("WWW", "Example"),
		nm("*", "w", "example"),
		nm("a.b", "c"),
		nm("a", "b", "c"),
		nm("\x00"),
		nm("\x00\x00", "\x01a"),
		nm("@", "$", "\\", "\"", ";", "(", ")"),
		nm(" \t\r\n"),
		nm("\x7f\x80\xff"),
		nm("\xc3\x89"),
		nm("\xc3\xa9"),
		nm("["),
		nm("{"),
		nm("Z"),
		nm("z"),
		nm("`"),
		nm("ab"),
		nm("a", "a"),
		nm("x\x07example"),
		nm("123", "\x30\x30"),
		nm(strings.Repeat("a", 63)),
		nm(strings.Repeat("\xfe", 63), "b"),
		nameOf(254),
		nameOf(255),
		nm(times(126, "b")...),
		nm(times(127, "b")...),
	}
}

// someName makes a name of few letters, so that two often share a tail.
func someName(r *rand.Rand, most int) string {
	const letters = "aAbBzZ[{@`\x00\x01.\\09\x7f\x80\xc9\xe9"
	var labels []string
	for range r.Intn(most + 1) {
		label := make([]byte, 1+r.Intn(2))
		for i := range label {
			label[i] = letters[r.Intn(len(letters))]
		}
		labels = append(labels, string(label))
	}
	return nm(labels...)
}

// anyName makes a name of any bytes, often as long as it may be.
func anyName(r *rand.Rand) string {
	var labels []string
	left := r.Intn(255)
	for left > 1 {
		size := 1 + r.Intn(63)
		if r.Intn(3) == 0 {
			size = 1
		}
		if size > left-1 {
			size = left - 1
		}
		label := make([]byte, size)
		r.Read(label)
		labels = append(labels, string(label))
		left -= size + 1
	}
	return nm(labels...)
}
