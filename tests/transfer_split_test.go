package tests

import (
	"fmt"
	"math/rand"
	"slices"
	"strings"
	"testing"

	"loop.example/s01858/impl"
)

// askAll is the question for all of a zone.
func askAll(apex string) impl.Question {
	return impl.Question{Name: apex, Type: impl.TypeAXFR, Class: impl.ClassIN}
}

// askSome is the question for the changes of a zone.
func askSome(apex string) impl.Question {
	return impl.Question{Name: apex, Type: impl.TypeIXFR, Class: impl.ClassIN}
}

func checkSplit(t *testing.T, tell string, id int64, q impl.Question, list []impl.RR, limit int64, want []string, code int64) {
	t.Helper()
	got, gotCode := impl.SplitTransfer(id, q, list, limit)
	isSame := slices.EqualFunc(got, want, func(b []byte, s string) bool { return string(b) == s })
	if gotCode != code || !isSame {
		t.Errorf("%s: SplitTransfer(%d, %.80q, %s, %d) = %.300q, %d, want %.300q, %d", tell, id, q.Name, tellRecords(list), limit, got, gotCode, want, code)
	}
}

// checkNoSplit holds SplitTransfer to a code, with nothing beside.
func checkNoSplit(t *testing.T, tell string, id int64, q impl.Question, list []impl.RR, limit, code int64) {
	t.Helper()
	checkSplit(t, tell, id, q, list, limit, nil, code)
}

// flagged is a head of a transfer's message, in bytes.
func flagged(id, questions, records int64) string {
	return be(id, 2) + "\x84\x00" + be(questions, 2) + be(records, 2) + "\x00\x00\x00\x00"
}

func TestSplit(t *testing.T) {
	ex := inEx()
	q := qu(ex, 252, 1)
	ns := rrOf(ex, impl.TypeNS, inEx("ns"))
	a := rrOf(inEx("a"), impl.TypeA, "abcd")
	checkSplit(t, "no record", 5, askAll(ex), nil, 512, []string{flagged(5, 1, 0) + q}, impl.OK)
	checkSplit(t, "no record in much room", 5, askAll(ex), []impl.RR{}, 65535, []string{flagged(5, 1, 0) + q}, impl.OK)
	one := flagged(5, 1, 1) + q + rec(ptr(12), 2, "\x02ns"+ptr(12))
	checkSplit(t, "one record", 5, askAll(ex), []impl.RR{ns}, 512, []string{one}, impl.OK)
	two := flagged(5, 1, 2) + q + rec(ptr(12), 2, "\x02ns"+ptr(12)) + rec("\x01a"+ptr(12), 1, "abcd")
	checkSplit(t, "two records", 5, askAll(ex), []impl.RR{ns, a}, 512, []string{two}, impl.OK)
	// The question may be any that fits into a message: it is not looked at.
	for _, q := range []impl.Question{{Name: root}, {Name: nm("com"), Type: 65535, Class: 65535}, {Name: nameOf(255), Type: 1, Class: 1}} {
		want := flagged(5, 1, 1) + qu(q.Name, q.Type, q.Class) + rec(root, 1, "abcd")
		checkSplit(t, "any question", 5, q, []impl.RR{rrOf(root, impl.TypeA, "abcd")}, 512, []string{want}, impl.OK)
	}
	// So may the records, with class and time.
	odd := impl.RR{Owner: root, Type: 0, Class: 65535, TTL: 4294967295, Data: ""}
	want := flagged(5, 1, 1) + qu(ex, 251, 1) + root + "\x00\x00\xff\xff\xff\xff\xff\xff\x00\x00"
	checkSplit(t, "an odd record", 5, askSome(ex), []impl.RR{odd}, 512, []string{want}, impl.OK)
}

// filler is a record of the owner `w` that has so many bytes of data.
func filler(n int) impl.RR { return rrOf(inEx("w"), 99, strings.Repeat("x", n)) }

// A message behind the first one has no question, and no pointers into another.
func TestSplitInMany(t *testing.T) {
	q := qu(inEx(), 252, 1)
	list := []impl.RR{filler(400), rrOf(inEx("b"), 99, strings.Repeat("y", 59)), rrOf(inEx("a"), impl.TypeA, "abcd"), filler(460), filler(1), rrOf(inEx("w"), impl.TypeNS, inEx("w"))}
	first := flagged(9, 1, 2) + q + rec("\x01w"+ptr(12), 99, strings.Repeat("x", 400)) + rec("\x01b"+ptr(12), 99, strings.Repeat("y", 59))
	second := flagged(9, 0, 2) + rec(inEx("a"), 1, "abcd") + rec("\x01w"+ptr(14), 99, strings.Repeat("x", 460))
	third := flagged(9, 0, 2) + rec(inEx("w"), 99, "x") + rec(ptr(12), 2, ptr(12))
	if len(first) != 512 {
		t.Fatalf("the first has %d bytes", len(first))
	}
	checkSplit(t, "into two", 9, askAll(inEx()), list[:4], 512, []string{first, second}, impl.OK)
	checkSplit(t, "into three", 9, askAll(inEx()), list, 512, []string{first, second, third}, impl.OK)
	// With a byte more the second one does not fit into the first message.
	list[1].Data += "y"
	first = flagged(9, 1, 1) + q + rec("\x01w"+ptr(12), 99, strings.Repeat("x", 400))
	second = flagged(9, 0, 2) + rec(inEx("b"), 99, list[1].Data) + rec("\x01a"+ptr(14), 1, "abcd")
	third = flagged(9, 0, 2) + rec(inEx("w"), 99, strings.Repeat("x", 460)) + rec(ptr(12), 99, "x")
	checkSplit(t, "a byte more", 9, askAll(inEx()), list[:5], 512, []string{first, second, third}, impl.OK)
}

func TestSplitJustFits(t *testing.T) {
	q, a := askAll(inEx()), rrOf(inEx("a"), impl.TypeA, "abcd")
	for _, limit := range []int{512, 513, 4096, 16384, 65534, 65535} {
		sizes := func(tell string, list []impl.RR, want ...int) {
			t.Helper()
			msgs, code := impl.SplitTransfer(1, q, list, int64(limit))
			var got []int
			for _, b := range msgs {
				got = append(got, len(b))
			}
			if isOK := code == impl.OK; isOK != (want != nil) || !isOK && code != impl.ErrSize || !slices.Equal(got, want) {
				t.Errorf("%s into %d bytes: %v, %d, want %v", tell, limit, got, code, want)
			}
		}
		// Beside the question, of 13 bytes, a pointer serves for the rest of the owner.
		sizes("the first", []impl.RR{filler(limit - 12 - 13 - 14)}, limit)
		sizes("the first and a byte", []impl.RR{filler(limit - 12 - 13 - 13)})
		sizes("the first and a byte, with one behind", []impl.RR{filler(limit - 12 - 13 - 13), a})
		sizes("two", []impl.RR{filler(100), filler(limit - 12 - 13 - 114 - 12)}, limit)
		sizes("two and a byte", []impl.RR{filler(100), filler(limit - 12 - 13 - 114 - 11)}, 12+13+114, 12+21+limit-12-13-114-11)
		sizes("one in a message of its own", []impl.RR{a, filler(limit - 12 - 21)}, 12+13+18, limit)
		sizes("one in a message of its own and a byte", []impl.RR{a, filler(limit - 12 - 20)})
		sizes("one that fits but beside the question", []impl.RR{filler(limit - 12 - 21), a})
		sizes("one between two", []impl.RR{a, filler(limit - 12 - 21), a}, 12+13+18, limit, 12+25)
		sizes("one too great behind many", []impl.RR{a, filler(limit - 12 - 21), a, filler(limit - 12 - 20), a, a})
	}
}

// Names that a record has twice are written once, in a message of its own, too.
func TestSplitOwnPointers(t *testing.T) {
	long := nameOf(255)
	soa := rrOf(long, impl.TypeSOA, long+long+soaTail)
	want := []string{flagged(1, 1, 1) + qu(root, 252, 1) + rec(long, 6, ptr(17)+ptr(17)+soaTail)}
	want = append(want, flagged(1, 0, 1)+rec(long, 6, ptr(12)+ptr(12)+soaTail), flagged(1, 0, 1)+rec(long, 6, ptr(12)+ptr(12)+soaTail))
	wide := rrOf(root, 99, strings.Repeat("x", 450))
	want = slices.Insert(want, 1, flagged(1, 0, 1)+rec(root, 99, wide.Data))
	want = slices.Insert(want, 3, flagged(1, 0, 1)+rec(root, 99, wide.Data))
	checkSplit(t, "long names", 1, askAll(root), []impl.RR{soa, wide, soa, wide, soa}, 512, want, impl.OK)
	// Two names that are unlike do not fit, nor does one beside a long question.
	other := rrOf(long, impl.TypeNS, capital(long))
	checkNoSplit(t, "two long names", 1, askAll(root), []impl.RR{other}, 512, impl.ErrSize)
	checkNoSplit(t, "a long question", 1, askAll(capital(long)), []impl.RR{soa}, 512, impl.ErrSize)
	checkSplit(t, "a long question that is the owner", 1, askAll(long), []impl.RR{soa}, 512, []string{flagged(1, 1, 1) + qu(long, 252, 1) + rec(ptr(12), 6, ptr(12)+ptr(12)+soaTail)}, impl.OK)
}

// tiny is so many small records, each another one.
func tiny(n int) []impl.RR {
	var list []impl.RR
	for i := range n {
		list = append(list, rrOf(root, impl.TypeA, be(int64(i), 4)))
	}
	return list
}

func TestSplitEntries(t *testing.T) {
	for n, counts := range map[int][]int64{
		398: {398}, 399: {399}, 400: {399, 1}, 799: {399, 400}, 800: {399, 400, 1}, 1199: {399, 400, 400}, 3000: {399, 400, 400, 400, 400, 400, 400, 201},
	} {
		list, want := tiny(n), []string(nil)
		at := int64(0)
		for i, count := range counts {
			b := flagged(3, 0, count)
			if i == 0 {
				b = flagged(3, 1, count) + qu(inEx(), 251, 1)
			}
			for _, rr := range list[at : at+count] {
				b += rec(root, 1, rr.Data)
			}
			want, at = append(want, b), at+count
		}
		checkSplit(t, itoa(n)+" records", 3, askSome(inEx()), list, 65535, want, impl.OK)
	}
	// 3000 records in as many messages.
	msgs, code := impl.SplitTransfer(3, askSome(inEx()), slices.Repeat([]impl.RR{filler(450)}, 3000), 512)
	if code != impl.OK || len(msgs) != 3000 || len(msgs[0]) != 25+464 || len(msgs[2999]) != 12+471 {
		t.Errorf("SplitTransfer of 3000 = %d messages, %d", len(msgs), code)
	}
}

func TestSplitCount(t *testing.T) {
	q := askAll(inEx())
	list := tiny(3001)
	checkNoSplit(t, "3001 records", 1, q, list, 512, impl.ErrCount)
	checkNoSplit(t, "3001 records, one too great", 1, q, append([]impl.RR{filler(60000)}, list[1:]...), 512, impl.ErrCount)
	checkNoSplit(t, "3001 records, the last ill", 1, q, append(list[:3000:3000], rrOf("", 1, "abcd")), 512, impl.ErrForm)
	checkNoSplit(t, "3001 records and no limit", 1, q, list, 511, impl.ErrForm)
	checkNoSplit(t, "many records", 1, q, slices.Repeat(list, 100), 65535, impl.ErrCount)
	if msgs, code := impl.SplitTransfer(1, q, list[:3000], 512); code != impl.OK || len(msgs) < 80 {
		t.Errorf("SplitTransfer of 3000 = %d messages, %d", len(msgs), code)
	}
}

func TestSplitNotValid(t *testing.T) {
	q, a := askAll(inEx()), rrOf(inEx("a"), impl.TypeA, "abcd")
	list := []impl.RR{a}
	for _, id := range []int64{-1, 65536, 65537, -65536, 9223372036854775807, -9223372036854775808} {
		checkNoSplit(t, "an ID", id, q, list, 512, impl.ErrForm)
	}
	for _, id := range []int64{0, 1, 65535} {
		checkSplit(t, "an ID", id, q, list, 512, []string{flagged(id, 1, 1) + qu(inEx(), 252, 1) + rec("\x01a"+ptr(12), 1, "abcd")}, impl.OK)
	}
	for _, limit := range []int64{-1, 0, 1, 12, 511, 65536, 65537, 9223372036854775807, -9223372036854775808, 4294967296 + 512} {
		checkNoSplit(t, "a limit", 1, q, list, limit, impl.ErrForm)
		checkNoSplit(t, "a limit and no record", 1, q, nil, limit, impl.ErrForm)
	}
	for _, limit := range []int64{512, 65535} {
		checkSplit(t, "a limit", 1, q, list, limit, []string{flagged(1, 1, 1) + qu(inEx(), 252, 1) + rec("\x01a"+ptr(12), 1, "abcd")}, impl.OK)
	}
	for _, name := range noNames() {
		checkNoSplit(t, "no name", 1, askAll(name), list, 512, impl.ErrForm)
	}
	for _, n := range []int64{-1, 65536} {
		checkNoSplit(t, "a question's type", 1, impl.Question{Name: inEx(), Type: n, Class: 1}, nil, 512, impl.ErrForm)
		checkNoSplit(t, "a question's class", 1, impl.Question{Name: inEx(), Type: 252, Class: n}, nil, 512, impl.ErrForm)
	}
	for tell, ill := range unsound() {
		if len(ill) < 400 {
			checkNoSplit(t, tell, 1, q, ill, 512, impl.ErrForm)
			checkNoSplit(t, tell+" behind one too great", 1, q, append([]impl.RR{filler(60000)}, ill...), 512, impl.ErrForm)
			checkNoSplit(t, tell+" behind many", 1, q, append(slices.Repeat(list, 3000), ill...), 512, impl.ErrForm)
		}
	}
}

func TestSplitAnyList(t *testing.T) {
	r := rand.New(rand.NewSource(134))
	met, most := map[int64]int{}, 0
	for n := range 1500 {
		var list []impl.RR
		for range r.Intn(1 + n%40) {
			list = append(list, someRecord(r))
			if r.Intn(12) == 0 {
				list = append(list, rrOf(tailName(r), 99, strings.Repeat("x", r.Intn(500))))
			}
		}
		if n%5 == 0 {
			list = append(list, rrOf(tailName(r), 99, strings.Repeat("x", 400+r.Intn(150))))
		}
		q := impl.Question{Name: tailName(r), Type: int64(r.Intn(65536)), Class: 1}
		limit := []int64{512, 512, 513, 600, 1000, 65535}[r.Intn(6)]
		if n%20 == 0 && len(list) > 0 {
			spoilAsk(r, &list[r.Intn(len(list))])
		}
		id := int64(r.Intn(65536))
		want, code := splitOf(id, q, list, limit)
		checkSplit(t, "a list", id, q, list, limit, want, code)
		met[code]++
		most = max(most, len(want))
	}
	if met[impl.OK] < 900 || met[impl.ErrSize] < 80 || met[impl.ErrForm] < 10 || most < 6 {
		t.Errorf("the codes met are %v, the most messages %d", met, most)
	}
}

// Pointers reach 16383 bytes, in each message by itself.
func TestSplitFarPointers(t *testing.T) {
	r := rand.New(rand.NewSource(135))
	for n := range 8 {
		var list []impl.RR
		for range 60 {
			list = append(list, someRecord(r), rrOf(tailName(r), 99, strings.Repeat("x", r.Intn(1500))))
		}
		q := askAll(inEx())
		limit := []int64{16000, 17000, 30000, 65535}[n%4]
		want, code := splitOf(1, q, list, limit)
		checkSplit(t, fmt.Sprintf("list %d", n), 1, q, list, limit, want, code)
	}
}
