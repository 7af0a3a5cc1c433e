package tests

import (
	"fmt"
	"slices"
	"strings"
	"testing"

	"loop.example/s01858/impl"
)

// No message, one, as many as may be, and more than that.
func TestHearSecondaryCount(t *testing.T) {
	z := secondZone(t, 1)
	for waits := range int64(3) {
		s := waiting(z, waits, 7, 100, 160)
		for _, msgs := range [][][]byte{nil, {}, make([][]byte, 3001), make([][]byte, 5000)} {
			checkHear(t, fmt.Sprint(len(msgs), " messages"), s, msgs, 100, impl.Secondary{}, "", impl.ErrCount)
		}
		notice := slices.Repeat(one(told(5, inEx())), 3001)
		checkHear(t, "told 3001 times", s, notice, 100, impl.Secondary{}, "", impl.ErrCount)
		checkHear(t, "told 3000 times at once", s, notice[:3000], 100, s, "", impl.OK)
		checkHear(t, "told twice at once", s, notice[:2], 100, s, "", impl.OK)
		checkHear(t, "told once", s, notice[:1], 100, waiting(z, waits, 7, 100, 160), thanks(5, inEx()), impl.OK)
		checkHear(t, "3000 messages", s, make([][]byte, 3000), 100, s, "", impl.OK)
	}
}

// Who is told of a change asks from now on, whatever it waits for and whenever it would have asked.
func TestHearSecondaryTold(t *testing.T) {
	z := secondZone(t, 1, rrOf(inEx("a"), impl.TypeA, "abcd"))
	const ask = "\x11\x22\x20\x00\x00\x01\x00\x00\x00\x00\x00\x00\x07example\x00\x00\x06\x00\x01"
	const reply = "\x11\x22\xa4\x00\x00\x01\x00\x00\x00\x00\x00\x00\x07example\x00\x00\x06\x00\x01"
	for waits := range int64(3) {
		for _, next := range []int64{0, 99, 100, 101, lastAhead} {
			for _, until := range []int64{0, 100, lastAhead} {
				s := waiting(z, waits, 0x1122, next, until)
				for _, now := range []int64{0, 99, 100, lastTime} {
					checkHear(t, "told", s, one(ask), now, waiting(z, waits, 0x1122, now, until), reply, impl.OK)
				}
			}
		}
		s := waiting(z, waits, 7, 110, 160)
		behind := waiting(z, waits, 7, 105, 160)
		for _, id := range []int64{0, 1, 6, 7, 8, 65535} {
			checkHear(t, fmt.Sprint("ID ", id), s, one(told(id, inEx())), 105, behind, thanks(id, inEx()), impl.OK)
		}
		for _, apex := range []string{nm("EXAMPLE"), nm("Example"), nm("exAmPlE")} {
			checkHear(t, "other letters", s, one(told(9, apex)), 105, behind, thanks(9, apex), impl.OK)
		}
		// No other bit, and no record, is looked at, or stands in what is sent.
		for n := range 256 {
			on := func(bit int) bool { return n>>bit&1 == 1 }
			m, _ := messageOf(told(9, inEx()))
			m.Head.AA, m.Head.TC, m.Head.RD, m.Head.RA, m.Head.Z, m.Head.AD, m.Head.CD = on(0), on(1), on(2), on(3), on(4), on(5), on(6)
			if on(7) {
				m.Head.Code = int64(1 + n%15)
				m.Answer, m.Authority = []impl.RR{soaOf(inEx(), 9)}, []impl.RR{rrOf(nm("x"), 99, "x")}
				m.Extra = []impl.RR{optOf(512, 32768, optionOf(1, "x")), optOf(512, 0)}
			}
			checkHear(t, "bits and records", s, one(asked(m)), 105, behind, thanks(9, inEx()), impl.OK)
		}
		// A name may have pointers, as long as Decode takes it.
		checkHear(t, "a record with a pointer", s, one(told(9, inEx())[:6]+"\x00\x01\x00\x00\x00\x00"+qu(inEx(), 6, 1)+rec(ptr(12), 1, "abcd")), 105, behind, thanks(9, inEx()), impl.OK)
	}
}

// What does not tell of a change of the zone.
func TestHearSecondaryNotTold(t *testing.T) {
	z := secondZone(t, 1)
	good, _ := messageOf(told(7, inEx()))
	bend := func(do func(m *impl.Message)) [][]byte {
		m := good
		m.Questions = slices.Clone(m.Questions)
		do(&m)
		return one(asked(m))
	}
	ask := func(name string, rtype, class int64) [][]byte {
		return bend(func(m *impl.Message) { m.Questions[0] = impl.Question{Name: name, Type: rtype, Class: class} })
	}
	ill := map[string][][]byte{
		"QR":             bend(func(m *impl.Message) { m.Head.QR = true }),
		"QR and AA":      bend(func(m *impl.Message) { m.Head.QR, m.Head.AA = true, true }),
		"no question":    bend(func(m *impl.Message) { m.Questions = nil }),
		"two questions":  bend(func(m *impl.Message) { m.Questions = append(m.Questions, m.Questions...) }),
		"another apex":   ask(nm("examplf"), 6, 1),
		"a name below":   ask(inEx("a"), 6, 1),
		"the root":       ask(root, 6, 1),
		"type A":         ask(inEx(), 1, 1),
		"type NS":        ask(inEx(), 2, 1),
		"type IXFR":      ask(inEx(), 251, 1),
		"type ANY":       ask(inEx(), 255, 1),
		"class CH":       ask(inEx(), 6, 3),
		"class ANY":      ask(inEx(), 6, 255),
		"class 0":        ask(inEx(), 6, 0),
		"a byte behind":  one(told(7, inEx()) + "x"),
		"a byte too few": one(told(7, inEx())[:24]),
		"11 bytes":       one(told(7, inEx())[:11]),
		"nothing":        one(""),
		"too long":       one(told(7, inEx()) + strings.Repeat("x", 70000)),
		"a count":        one("\x00\x07\x20\x00\x00\x01\x00\x01" + told(7, inEx())[8:]),
		"two messages":   append(one(told(7, inEx())), one(told(7, inEx()))...),
		"one and none":   append(one(told(7, inEx())), nil),
	}
	for op := range int64(16) {
		if op != impl.OpNotify {
			ill[fmt.Sprint("operation ", op)] = bend(func(m *impl.Message) { m.Head.Op = op })
		}
	}
	for tell, msgs := range ill {
		for waits := range int64(3) {
			checkUnheard(t, tell, waiting(z, waits, 7, 100, 160), msgs)
		}
	}
}

// The SOA that was asked for, by its serial: one that comes behind is gone after, any other one is as good as the same.
func TestHearSecondarySOA(t *testing.T) {
	for _, c := range []struct {
		own, theirs int64
		behind      bool
	}{
		{1, 1, false}, {1, 2, true}, {1, 0, false}, {1, 3, true}, {1, 2147483647, true}, {1, 2147483648, true},
		{1, 2147483649, false}, {1, 2147483650, false}, {1, greatest, false}, {0, 2147483647, true}, {0, 2147483648, false},
		{greatest, 0, true}, {greatest, 1, true}, {greatest, greatest, false}, {greatest, greatest - 1, false},
		{greatest, 2147483646, true}, {greatest, 2147483647, false}, {2147483648, 0, false}, {2147483648, greatest, true}, {0, 0, false},
	} {
		z := secondZone(t, c.own, rrOf(inEx("a"), impl.TypeA, "abcd"))
		s := waiting(z, impl.AskedSOA, 7, 104, 160)
		msgs := one(asked(tellsSOA(7, inEx(), soaTimed(inEx(), c.theirs, 1, 2, 3))))
		tell := fmt.Sprintf("serials %d and %d", c.own, c.theirs)
		for _, now := range []int64{0, 101, 104, 500, lastTime} {
			if c.behind {
				checkHear(t, tell, s, msgs, now, waiting(z, impl.AskedZone, 8, 104, 160), asksZone(8, z), impl.OK)
			} else {
				// The times are those of the zone that it has.
				checkHear(t, tell, s, msgs, now, waiting(z, impl.AskedNothing, 7, now+10, now+60), "", impl.OK)
			}
		}
	}
}

// What asks for the zone, byte by byte.
func TestHearSecondaryAsksZone(t *testing.T) {
	z := secondZone(t, 258)
	msgs := one(asked(tellsSOA(7, inEx(), soaOf(inEx(), 300))))
	want := "\x00\x08\x00\x00\x00\x01\x00\x00\x00\x01\x00\x00" + "\x07example\x00\x00\xfb\x00\x01" + "\xc0\x0c\x00\x06\x00\x01\x00\x00\x0e\x10\x00\x1f" +
		"\x02ns\x00\x05admin\x00" + "\x00\x00\x01\x02" + "\x00\x00\x00\x0a" + "\x00\x00\x00\x04" + "\x00\x00\x00\x3c" + "\x00\x00\x01\x2c"
	checkHear(t, "byte by byte", waiting(z, 1, 7, 104, 160), msgs, 101, waiting(z, 2, 8, 104, 160), want, impl.OK)
	for _, c := range [][2]int64{{0, 1}, {255, 256}, {65534, 65535}, {65535, 0}} {
		msgs := one(asked(tellsSOA(c[0], inEx(), soaOf(inEx(), 300))))
		checkHear(t, fmt.Sprint("ID ", c[0]), waiting(z, 1, c[0], 104, 160), msgs, 101, waiting(z, 2, c[1], 104, 160), asksZone(c[1], z), impl.OK)
		msgs = one(asked(tellsSOA(c[0], inEx(), soaOf(inEx(), 258))))
		checkHear(t, fmt.Sprint("ID ", c[0]), waiting(z, 1, c[0], 104, 160), msgs, 101, waiting(z, 0, c[0], 111, 161), "", impl.OK)
	}
	// The question has the letters of the apex, the SOA those of its owner.
	list := []impl.RR{soaTimed(inEx(), 1, 10, 4, 60), rrOf(inEx(), impl.TypeNS, nm("ns"))}
	z = mustBuild(t, list, nm("Example"))
	msgs = one(asked(tellsSOA(7, nm("Example"), soaOf(inEx(), 2))))
	want = "\x00\x08\x00\x00\x00\x01\x00\x00\x00\x01\x00\x00" + "\x07Example\x00\x00\xfb\x00\x01" + "\x07example\x00\x00\x06\x00\x01\x00\x00\x0e\x10\x00\x1f" + list[0].Data
	checkHear(t, "letters", waiting(z, 1, 7, 104, 160), msgs, 101, waiting(z, 2, 8, 104, 160), want, impl.OK)
	// A zone with many records, of which only the SOA is sent, with its own time.
	for n := range 400 {
		list = append(list, rrOf(inEx("h"+itoa(n)), impl.TypeA, "abcd"))
	}
	list[0].TTL = 5
	z = mustBuild(t, list, inEx())
	checkHear(t, "a great zone", waiting(z, 1, 7, 104, 160), one(asked(tellsSOA(7, inEx(), soaOf(inEx(), 2)))), 101, waiting(z, 2, 8, 104, 160), asksZone(8, z), impl.OK)
}

// Refresh and expire at their ends, when nothing is new: each counts as one at least; retry does not count.
func TestHearSecondarySame(t *testing.T) {
	all := [][2]int64{{0, 1}, {1, 1}, {2, 2}, {65536, 65536}, {2147483648, 2147483648}, {greatest, greatest}}
	for _, refresh := range all {
		for _, expire := range all {
			for _, retry := range []int64{0, 7, greatest} {
				z := timedZone(t, 1, refresh[0], retry, expire[0])
				for _, now := range []int64{0, 500, lastTime} {
					msgs := one(asked(tellsSOA(7, inEx(), soaOf(inEx(), 1))))
					want := waiting(z, 0, 7, now+refresh[1], now+expire[1])
					checkHear(t, fmt.Sprint("times ", refresh[0], retry, expire[0]), waiting(z, 1, 7, lastAhead, lastAhead), msgs, now, want, "", impl.OK)
					checkHear(t, "times of zero", waiting(z, 1, 7, 0, 0), msgs, now, want, "", impl.OK)
				}
			}
		}
	}
}

// What an answer to the question for the SOA may have, and is not looked at.
func TestHearSecondarySOATaken(t *testing.T) {
	z := secondZone(t, 1)
	s := waiting(z, 1, 7, 104, 160)
	behind := waiting(z, 2, 8, 104, 160)
	good := tellsSOA(7, inEx(), soaOf(inEx(), 2))
	takes := func(tell string, do func(m *impl.Message)) {
		t.Helper()
		m := good
		m.Answer = slices.Clone(m.Answer)
		do(&m)
		checkHear(t, tell, s, one(asked(m)), 101, behind, asksZone(8, z), impl.OK)
	}
	for n := range 32 {
		takes("other bits", func(m *impl.Message) {
			m.Head.RD, m.Head.RA, m.Head.Z, m.Head.AD, m.Head.CD = n&1 > 0, n&2 > 0, n&4 > 0, n&8 > 0, n&16 > 0
		})
	}
	takes("an owner in other letters", func(m *impl.Message) { m.Answer[0].Owner = nm("EXAMPLE") })
	takes("another time", func(m *impl.Message) { m.Answer[0].TTL = greatest })
	takes("more behind it", func(m *impl.Message) {
		m.Answer = append(m.Answer, soaOf(inEx(), 0), rrOf(nm("x"), 6, ""), rrOf(inEx(), impl.TypeNS, nm("ns")))
	})
	takes("more beside it", func(m *impl.Message) {
		m.Authority, m.Extra = []impl.RR{soaOf(inEx(), 0)}, []impl.RR{optOf(512, 0), rrOf(inEx(), 1, "abcd")}
	})
	// An SOA in other words, with just a serial that comes behind.
	takes("other names", func(m *impl.Message) { m.Answer[0].Data = root + nameOf(255) + be(2, 4) + be(0, 16) })
}

// What does not answer the question for the SOA: nothing comes of it, and it is still waited for.
func TestHearSecondarySOANotTaken(t *testing.T) {
	z := secondZone(t, 1)
	for _, serial := range []int64{1, 2} {
		good := tellsSOA(7, inEx(), soaOf(inEx(), serial))
		bend := func(do func(m *impl.Message)) [][]byte {
			m := good
			m.Questions, m.Answer = slices.Clone(m.Questions), slices.Clone(m.Answer)
			do(&m)
			return one(asked(m))
		}
		q := func(name string, rtype, class int64) [][]byte {
			return bend(func(m *impl.Message) { m.Questions[0] = impl.Question{Name: name, Type: rtype, Class: class} })
		}
		ill := map[string][][]byte{
			"the ID ahead":          bend(func(m *impl.Message) { m.Head.ID = 6 }),
			"the ID behind":         bend(func(m *impl.Message) { m.Head.ID = 8 }),
			"the ID 0":              bend(func(m *impl.Message) { m.Head.ID = 0 }),
			"no QR":                 bend(func(m *impl.Message) { m.Head.QR = false }),
			"no AA":                 bend(func(m *impl.Message) { m.Head.AA = false }),
			"TC":                    bend(func(m *impl.Message) { m.Head.TC = true }),
			"no question":           bend(func(m *impl.Message) { m.Questions = nil }),
			"two questions":         bend(func(m *impl.Message) { m.Questions = append(m.Questions, m.Questions...) }),
			"another name":          q(nm("examplf"), 6, 1),
			"other letters":         q(nm("Example"), 6, 1),
			"a name below":          q(inEx("a"), 6, 1),
			"type IXFR":             q(inEx(), 251, 1),
			"type NS":               q(inEx(), 2, 1),
			"class CH":              q(inEx(), 6, 3),
			"class ANY":             q(inEx(), 6, 255),
			"no record":             bend(func(m *impl.Message) { m.Answer = nil }),
			"in the authority list": bend(func(m *impl.Message) { m.Answer, m.Authority = nil, m.Answer }),
			"in the extra list":     bend(func(m *impl.Message) { m.Answer, m.Extra = nil, m.Answer }),
			"no SOA":                bend(func(m *impl.Message) { m.Answer = []impl.RR{rrOf(inEx(), impl.TypeNS, nm("ns"))} }),
			"no SOA first":          bend(func(m *impl.Message) { m.Answer = append([]impl.RR{rrOf(inEx(), impl.TypeNS, nm("ns"))}, m.Answer...) }),
			"an SOA of another":     bend(func(m *impl.Message) { m.Answer[0].Owner = nm("examplf") }),
			"an SOA below":          bend(func(m *impl.Message) { m.Answer[0].Owner = inEx("a") }),
			"an SOA above":          bend(func(m *impl.Message) { m.Answer[0].Owner = root }),
			"another one first":     bend(func(m *impl.Message) { m.Answer = append([]impl.RR{soaOf(root, 2)}, m.Answer...) }),
			"an SOA without data":   bend(func(m *impl.Message) { m.Answer[0].Data = "" }),
			"its data, another type": bend(func(m *impl.Message) {
				m.Answer[0].Type = 65280
			}),
			"a byte behind":  one(asked(good) + "x"),
			"a byte too few": one(asked(good)[:len(asked(good))-1]),
			"nothing":        one(""),
			"too long":       one(asked(good) + strings.Repeat("x", 70000)),
			"ill data":       one(strings.Replace(asked(good), be(31, 2)+"\x02ns", be(30, 2)+"\x02ns", 1)),
			"twice at once":  append(one(asked(good)), one(asked(good))...),
			"one and none":   append(one(asked(good)), nil),
			"none and one":   append([][]byte{nil}, one(asked(good))...),
		}
		for n := int64(1); n < 16; n++ {
			ill[fmt.Sprint("operation ", n)] = bend(func(m *impl.Message) { m.Head.Op = n })
			ill[fmt.Sprint("code ", n)] = bend(func(m *impl.Message) { m.Head.Code = n })
		}
		for tell, msgs := range ill {
			checkUnheard(t, tell, waiting(z, 1, 7, 104, 160), msgs)
		}
		// A right one that nobody waits for.
		for _, waits := range []int64{0, 2} {
			checkUnheard(t, "nobody waits for it", waiting(z, waits, 7, 104, 160), one(asked(good)))
		}
		// One that answers with the letters that were not asked with.
		other := mustBuild(t, []impl.RR{soaTimed(inEx(), 1, 10, 4, 60), rrOf(inEx(), impl.TypeNS, nm("ns"))}, nm("Example"))
		checkUnheard(t, "other letters than the apex", waiting(other, 1, 7, 104, 160), one(asked(good)))
	}
}
