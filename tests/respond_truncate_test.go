package tests

import (
	"fmt"
	"math"
	"math/rand"
	"slices"
	"strings"
	"testing"

	"loop.example/s01858/impl"
)

func checkTruncate(t *testing.T, tell string, m impl.Message, budget int64, want impl.Message, code int64) {
	t.Helper()
	if got, gotCode := impl.Truncate(m, budget); !sameMessage(got, want) || gotCode != code {
		t.Errorf("%s: Truncate(%s, %d) = %s, %d, want %s, %d", tell, tellMessage(m), budget, tellMessage(got), gotCode, tellMessage(want), code)
	}
}

// sizeOf is how many bytes a message has.
func sizeOf(m impl.Message) int64 { return int64(len(layMessage(m, false))) }

// steps is a message and what becomes of it run by run: each is what is left behind one drop more.
func checkRuns(t *testing.T, tell string, steps ...impl.Message) {
	t.Helper()
	m := steps[0]
	for i, left := range steps {
		size := sizeOf(left)
		checkTruncate(t, fmt.Sprintf("%s: at the size of %d", tell, i), m, size, left, impl.OK)
		if i == 0 {
			checkTruncate(t, tell+": one more", m, size+1, left, impl.OK)
			checkTruncate(t, tell+": much more", m, math.MaxInt64, left, impl.OK)
		}
		next := steps[min(i+1, len(steps)-1)]
		checkTruncate(t, fmt.Sprintf("%s: one less than the size of %d", tell, i), m, size-1, next, impl.OK)
	}
	for _, budget := range []int64{11, 0, -1, math.MinInt64} {
		checkTruncate(t, tell+": nothing fits", m, budget, steps[len(steps)-1], impl.OK)
	}
}

// lists is a message with some records in its lists, and TC if asked for.
func lists(tc bool, answer, authority, extra []impl.RR) impl.Message {
	m := asking(inEx(), 255, 1)
	m.Head = impl.Head{ID: 0xfffe, QR: true, Op: 5, AA: true, TC: tc, RD: true, RA: true, Z: true, AD: true, CD: true, Code: 15}
	m.Answer, m.Authority, m.Extra = answer, authority, extra
	return m
}

func TestTruncate(t *testing.T) {
	var a, b, c []impl.RR
	for _, x := range []string{"x", "y", "z"} {
		a = append(a, rrOf(inEx(), impl.TypeA, "abc"+x))
		b = append(b, rrOf(inEx(), 99, x))
		c = append(c, rrOf(inEx(), impl.TypeAAAA, "0123456789abcde"+x))
	}
	opt := []impl.RR{optOf(4096, 0)}
	all := func(lists ...[]impl.RR) []impl.RR { return slices.Concat(lists...) }
	// Each list one run.
	checkRuns(t, "three runs", lists(false, a, b, all(c, opt)), lists(false, a, b, opt), lists(true, a, nil, opt), lists(true, nil, nil, opt))
	checkRuns(t, "no OPT", lists(false, a, b, c), lists(false, a, b, nil), lists(true, a, nil, nil), lists(true, nil, nil, nil))
	// TC that was set stays.
	checkRuns(t, "TC", lists(true, a, b, c), lists(true, a, b, nil), lists(true, a, nil, nil), lists(true, nil, nil, nil))
	checkRuns(t, "extra alone", lists(false, nil, nil, c), lists(false, nil, nil, nil))
	checkRuns(t, "authority alone", lists(false, nil, b, nil), lists(true, nil, nil, nil))
	checkRuns(t, "answer alone", lists(false, a, nil, nil), lists(true, nil, nil, nil))
	checkRuns(t, "nothing", lists(false, nil, nil, nil))
	checkRuns(t, "OPT alone", lists(false, nil, nil, opt))
	checkRuns(t, "no question", impl.Message{Answer: a}, impl.Message{Head: impl.Head{TC: true}})
	// Several runs in a list, the last first.
	checkRuns(t, "runs in answer", lists(false, all(a, c, b), nil, nil), lists(true, all(a, c), nil, nil), lists(true, a, nil, nil), lists(true, nil, nil, nil))
	checkRuns(t, "runs in extra", lists(false, nil, nil, all(a, c, b)), lists(false, nil, nil, all(a, c)), lists(false, nil, nil, a), lists(false, nil, nil, nil))
	checkRuns(t, "a run that comes again", lists(false, nil, all(a, b, a), nil), lists(true, nil, all(a, b), nil), lists(true, nil, a, nil), lists(true, nil, nil, nil))
	// Records of TypeOPT in the extra list stay where they are, and part runs.
	checkRuns(t, "OPT between",
		lists(false, nil, nil, all(a[:1], opt, a[1:])), lists(false, nil, nil, all(a[:1], opt)), lists(false, nil, nil, opt))
	checkRuns(t, "OPT ahead and behind",
		lists(false, nil, b, all(opt, a, opt, opt, c, opt)), lists(false, nil, b, all(opt, a, opt, opt, opt)),
		lists(false, nil, b, all(opt, opt, opt, opt)), lists(true, nil, nil, all(opt, opt, opt, opt)))
	// In the other lists they are as all others.
	checkRuns(t, "OPT elsewhere", lists(false, all(a, opt), all(opt, opt, b), opt),
		lists(true, all(a, opt), all(opt, opt), opt), lists(true, all(a, opt), nil, opt), lists(true, a, nil, opt), lists(true, nil, nil, opt))
	// A signature goes as all others.
	sig := []impl.RR{{Owner: nm("key"), Type: impl.TypeTSIG, Class: 255, Data: "x"}}
	checkRuns(t, "a signature", lists(false, nil, nil, all(a, opt, sig)), lists(false, nil, nil, all(a, opt)), lists(false, nil, nil, opt))
}

// What makes neighbours one run: owner byte for byte, type and class, and nothing else.
func TestTruncateRuns(t *testing.T) {
	one := rrOf(inEx("a"), impl.TypeTXT, st("x"))
	for tell, c := range map[string]struct {
		other impl.RR
		same  bool
	}{
		"the same":       {one, true},
		"other data":     {rrOf(inEx("a"), impl.TypeTXT, st("other")), true},
		"another time":   {inTime(one, 5), true},
		"no data":        {rrOf(inEx("a"), impl.TypeTXT, ""), true},
		"other letters":  {rrOf(inEx("A"), impl.TypeTXT, st("x")), false},
		"another owner":  {rrOf(inEx("b"), impl.TypeTXT, st("x")), false},
		"an owner below": {rrOf(inEx("a", "a"), impl.TypeTXT, st("x")), false},
		"another type":   {rrOf(inEx("a"), 99, st("x")), false},
		"another class":  {inClass(one, 3), false},
	} {
		both, alone := []impl.RR{one, c.other}, []impl.RR{one}
		if c.same {
			checkRuns(t, tell, lists(false, both, nil, nil), lists(true, nil, nil, nil))
			checkRuns(t, tell, lists(false, nil, both, nil), lists(true, nil, nil, nil))
			checkRuns(t, tell, lists(false, nil, nil, both), lists(false, nil, nil, nil))
			continue
		}
		checkRuns(t, tell, lists(false, both, nil, nil), lists(true, alone, nil, nil), lists(true, nil, nil, nil))
		checkRuns(t, tell, lists(false, nil, both, nil), lists(true, nil, alone, nil), lists(true, nil, nil, nil))
		checkRuns(t, tell, lists(false, nil, nil, both), lists(false, nil, nil, alone), lists(false, nil, nil, nil))
	}
	// Neighbours in two lists are no run.
	alone := []impl.RR{one}
	checkRuns(t, "two lists", lists(false, alone, alone, nil), lists(true, alone, nil, nil), lists(true, nil, nil, nil))
	checkRuns(t, "two lists", lists(false, nil, alone, alone), lists(false, nil, alone, nil), lists(true, nil, nil, nil))
}

// Messages that are longer than any that is sent are made to fit, too.
func TestTruncateMuch(t *testing.T) {
	var list []impl.RR
	for n := range 60 {
		list = append(list, rrOf(inEx(itoa(n)), 65280, strings.Repeat("x", 65535)))
	}
	m := lists(false, list, nil, []impl.RR{optOf(512, 0, optionOf(1, strings.Repeat("o", 65531)))})
	for _, n := range []int{0, 1, 3, 60} {
		want := lists(n < 60, list[:n], nil, m.Extra)
		checkTruncate(t, fmt.Sprint(n), m, sizeOf(want), want, impl.OK)
		if n < 60 {
			checkTruncate(t, fmt.Sprint(n, " and more"), m, sizeOf(want)+65535, want, impl.OK)
		}
	}
	one := lists(false, []impl.RR{rrOf(root, 65280, strings.Repeat("x", 65535-len(asked(lists(false, nil, nil, nil)))-11))}, nil, nil)
	if sizeOf(one) != 65535 {
		t.Fatalf("it has %d bytes", sizeOf(one))
	}
	checkRuns(t, "the longest message", one, lists(true, nil, nil, nil))
}

func TestTruncateIll(t *testing.T) {
	good := asking(inEx(), 1, 1)
	for tell, do := range map[string]func(m *impl.Message){
		"an ID below":       func(m *impl.Message) { m.Head.ID = -1 },
		"an ID beyond":      func(m *impl.Message) { m.Head.ID = 65536 },
		"an Op below":       func(m *impl.Message) { m.Head.Op = -1 },
		"an Op beyond":      func(m *impl.Message) { m.Head.Op = 16 },
		"a code beyond":     func(m *impl.Message) { m.Head.Code = 16 },
		"a question's name": func(m *impl.Message) { m.Questions[0].Name = "x" },
		"a question's type": func(m *impl.Message) { m.Questions[0].Type = 65536 },
		"401 questions":     func(m *impl.Message) { m.Questions = slices.Repeat(m.Questions, 401) },
		"401 entries":       func(m *impl.Message) { m.Answer = slices.Repeat([]impl.RR{rrOf(root, 99, "")}, 400) },
		"401 entries in 3":  func(m *impl.Message) { list := tiny(134); m.Answer, m.Authority, m.Extra = list[1:], list[1:], list },
	} {
		m := good
		m.Questions = slices.Clone(good.Questions)
		do(&m)
		for _, budget := range []int64{0, 512, math.MaxInt64} {
			checkTruncate(t, tell, m, budget, impl.Message{}, impl.ErrForm)
		}
	}
	for tell, rr := range illRecords(rrOf(inEx(), impl.TypeA, "abcd")) {
		for i := range 3 {
			m := good
			*recordLists(&m)[i] = []impl.RR{rr}
			checkTruncate(t, tell, m, math.MaxInt64, impl.Message{}, impl.ErrForm)
		}
	}
	most := good
	most.Answer = slices.Repeat([]impl.RR{rrOf(root, 99, "")}, 399)
	checkTruncate(t, "400 entries", most, 65535, most, impl.OK)
}

func TestTruncateAny(t *testing.T) {
	r := rand.New(rand.NewSource(157))
	for range 1500 {
		m := someMessage(r, 6)
		for _, list := range recordLists(&m) {
			if len(*list) > 0 && r.Intn(2) == 0 {
				*list = append(*list, slices.Repeat((*list)[len(*list)-1:], 1+r.Intn(3))...)
			}
			if r.Intn(3) == 0 {
				*list = append(*list, impl.RR{Owner: tailName(r), Type: 41})
				*list = append(*list, someRecord(r))
			}
		}
		size := sizeOf(m)
		for range 6 {
			budget := r.Int63n(size + 20)
			want, code := truncateOf(m, budget)
			checkTruncate(t, "any", m, budget, want, code)
		}
	}
}
