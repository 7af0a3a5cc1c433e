package tests

import (
	"math/rand"
	"slices"
	"strings"
	"testing"

	"loop.example/s01858/impl"
)

func TestCutFrames(t *testing.T) {
	for _, c := range []struct {
		rest, chunk string
		frames      []string
		left        string
		ended       bool
	}{
		{"", "", nil, "", false},
		{"", "\x00", nil, "\x00", false},
		{"\x00", "", nil, "\x00", false},
		{"\x00\x01", "", nil, "\x00\x01", false},
		{"\x00", "\x01", nil, "\x00\x01", false},
		{"\x00", "\x01a", []string{"a"}, "", false},
		{"\x00\x01a", "", []string{"a"}, "", false},
		{"\x00\x01a", "\x00\x02b", []string{"a"}, "\x00\x02b", false},
		{"\x00\x02a", "b\x00\x01c\x00", []string{"ab", "c"}, "\x00", false},
		{"\x01\x00a", "bc", nil, "\x01\x00abc", false},
		{"\x01\x02" + strings.Repeat("a", 257), "bc", []string{strings.Repeat("a", 257) + "b"}, "c", false},
		{"", "\x00\x03abc\x00\x03abc", []string{"abc", "abc"}, "", false},
		{"", "\x00\x02\x00\x00\x00\x01\x00", []string{"\x00\x00", "\x00"}, "", false},
		// A frame of length 0, and what is behind it.
		{"", "\x00\x00", nil, "", true},
		{"\x00", "\x00", nil, "", true},
		{"\x00\x00", "", nil, "", true},
		{"", "\x00\x00\x00\x01a", nil, "", true},
		{"\x00\x00\x00\x01a", "\x00\x01b", nil, "", true},
		{"\x00\x01", "a\x00\x00\x00\x01b\x00", []string{"a"}, "", true},
		{"", "\x00\x01a\x00\x01b\x00\x00\x00\x00\x00", []string{"a", "b"}, "", true},
		{"\x00\x01a\x00", "\x00", []string{"a"}, "", true},
		{"", "\x00\x02a\x00\x00\x00", []string{"a\x00"}, "", true},
		{"", "\x00\x02a\x00\x00", []string{"a\x00"}, "\x00", false},
	} {
		checkFrames(t, c.rest, c.chunk, c.frames, c.left, c.ended)
	}
}

func TestCutFramesLimits(t *testing.T) {
	long := strings.Repeat("x", 65535)
	whole := "\xff\xff" + long
	checkFrames(t, whole, "", []string{long}, "", false)
	checkFrames(t, whole[:65536], "", nil, whole[:65536], false)
	checkFrames(t, whole[:65536], "x", []string{long}, "", false)
	checkFrames(t, "", whole+whole+"\x00", []string{long, long}, "\x00", false)
	checkFrames(t, whole, "\x00\x01a", []string{long, "a"}, "", false)
	// A rest that is as long as it may be, and one byte more.
	ones := strings.Repeat("\x00\x01a", 21846)[:65538]
	checkFrames(t, ones[:65537], "", slices.Repeat([]string{"a"}, 21845), "\x00\x01", false)
	checkFrames(t, ones[:65537], "b", append(slices.Repeat([]string{"a"}, 21845), "b"), "", false)
	checkFrames(t, ones, "", nil, "", false)
	checkFrames(t, ones, "b", nil, "", false)
	checkFrames(t, "\x00\x00"+ones, "", nil, "", false)
	checkFrames(t, whole+"x", "", nil, "", false)
	// Likewise a chunk.
	many := strings.Repeat("\x00\x06abcdef", 50000)
	checkFrames(t, "", many, slices.Repeat([]string{"abcdef"}, 50000), "", false)
	checkFrames(t, "\x00", "\x06abcdef"+many[:399993], slices.Repeat([]string{"abcdef"}, 50000), "\x00", false)
	checkFrames(t, "", many+"x", nil, "", false)
	checkFrames(t, "\x00\x01a", many+"x", nil, "", false)
	checkFrames(t, "", "\x00\x00"+many, nil, "", false)
	checkFrames(t, "\x00\x00", many, nil, "", true)
	checkFrames(t, ones, many+"x", nil, "", false)
}

// someStream makes a stream: some frames, perhaps one of length 0, perhaps one that is not whole.
func someStream(r *rand.Rand) string {
	out := ""
	for range r.Intn(6) {
		out += stream(string(someBytes(r, 1+r.Intn(5))))
		if r.Intn(40) == 0 {
			out += stream(string(someBytes(r, 250+r.Intn(20))))
		}
	}
	if r.Intn(4) == 0 {
		out += "\x00\x00" + string(someBytes(r, r.Intn(4)))
	}
	if r.Intn(2) == 0 {
		out += be(int64(3+r.Intn(600)), 2) + "ab"
	}
	return out
}

// Arbitrary streams, cut in two anywhere, held against a second reading of the chapter: where they are cut does not show.
func TestCutFramesAny(t *testing.T) {
	r := rand.New(rand.NewSource(167))
	for range 2000 {
		all := someStream(r)
		frames, left, ended := framesOf("", all)
		for at := range len(all) + 1 {
			checkFrames(t, all[:at], all[at:], frames, left, ended)
		}
		ill := string(bent(r, []byte(all+"\x00")))
		frames, left, ended = framesOf(ill[:1], ill[1:])
		checkFrames(t, ill[:1], ill[1:], frames, left, ended)
	}
}

// P1: of CutFrames: nothing is written into an argument, nor behind it; no two lists of an answer share memory.
func TestP1CutFramesMemory(t *testing.T) {
	r := rand.New(rand.NewSource(168))
	for range 2000 {
		all := someStream(r)
		at := r.Intn(len(all) + 1)
		rest, more := append([]byte(all[:at]), "left"...)[:at], append([]byte(all[at:]), "left"...)[:len(all)-at]
		frames, left, ended := impl.CutFrames(rest, more)
		if string(rest[:at+4]) != all[:at]+"left" || string(more[:len(more)+4]) != all[at:]+"left" {
			t.Fatalf("CutFrames wrote into an argument")
		}
		clear(rest)
		clear(more)
		want, wantLeft, wantEnded := framesOf("", all)
		for i, frame := range frames {
			if string(frame) != want[i] {
				t.Fatalf("a frame shares memory")
			}
			clear(frame)
			_ = append(frame, "more"...)
		}
		if string(left) != wantLeft || ended != wantEnded {
			t.Fatalf("what is left shares memory")
		}
	}
}
