package tests

import (
	"fmt"
	"math"
	"testing"

	"loop.example/s01858/impl"
)

// The numbers that the document gives.
func TestSecondaryNumbers(t *testing.T) {
	if impl.OpNotify != 4 || impl.AskedNothing != 0 || impl.AskedSOA != 1 || impl.AskedZone != 2 {
		t.Errorf("the numbers are %d, %d, %d, %d", impl.OpNotify, impl.AskedNothing, impl.AskedSOA, impl.AskedZone)
	}
}

func TestStartSecondary(t *testing.T) {
	z := secondZone(t, 1, rrOf(inEx("a"), impl.TypeA, "abcd"))
	checkStarted(t, "at 100", z, 100, waiting(z, 0, 0, 100, 160), impl.OK)
	for _, now := range []int64{0, 1, lastTime - 1, lastTime} {
		checkStarted(t, "the ends of time", z, now, waiting(z, 0, 0, now, now+60), impl.OK)
	}
	for _, now := range []int64{-1, lastTime + 1, lastAhead, math.MaxInt64, math.MinInt64} {
		checkStarted(t, "no time", z, now, impl.Secondary{}, impl.ErrForm)
	}
	// Of the times only expire counts, as one at least.
	for _, c := range [][2]int64{{0, 1}, {1, 1}, {2, 2}, {65536, 65536}, {2147483648, 2147483648}, {greatest, greatest}} {
		for _, other := range []int64{0, 1, 77, greatest} {
			z := timedZone(t, 1, other, other, c[0])
			checkStarted(t, fmt.Sprint("expire ", c[0]), z, 100, waiting(z, 0, 0, 100, 100+c[1]), impl.OK)
			checkStarted(t, fmt.Sprint("expire ", c[0]), z, lastTime, waiting(z, 0, 0, lastTime, lastTime+c[1]), impl.OK)
		}
	}
	for tell, z := range noZones(z) {
		for _, now := range []int64{0, 100, lastTime, -1, lastTime + 1} {
			checkStarted(t, tell, z, now, impl.Secondary{}, impl.ErrForm)
		}
	}
}

// Zones of each apex, their letters and all their records are kept.
func TestStartSecondaryZones(t *testing.T) {
	for _, apex := range append(apexes()[:3], nm("a", "b", "c"), nameOf(255)) {
		list := []impl.RR{soaTimed(capital(apex), 1, 10, 4, 60), rrOf(apex, impl.TypeNS, nm("ns"))}
		z := mustBuild(t, list, apex)
		checkStarted(t, fmt.Sprintf("apex %q", apex), z, 100, waiting(z, 0, 0, 100, 160), impl.OK)
		s := waiting(z, 2, 6, 100, 160)
		checkTick(t, fmt.Sprintf("apex %q", apex), s, 99, s, "", impl.OK)
		checkTick(t, fmt.Sprintf("apex %q", apex), s, 100, waiting(z, 1, 7, 104, 160), asksSOA(7, apex), impl.OK)
	}
}

// Ahead of Next nothing is asked; from Next on the SOA is, whatever is waited for, and whether the zone still counts.
func TestTickSecondary(t *testing.T) {
	z := secondZone(t, 1, rrOf(inEx("a"), impl.TypeA, "abcd"))
	const first = "\x00\x08\x00\x00\x00\x01\x00\x00\x00\x00\x00\x00\x07example\x00\x00\x06\x00\x01"
	for waits := range int64(3) {
		for _, until := range []int64{0, 99, 100, 101, 160, lastAhead} {
			tell := fmt.Sprintf("waiting for %d until %d", waits, until)
			s := waiting(z, waits, 7, 100, until)
			for _, now := range []int64{0, 1, 98, 99} {
				checkTick(t, tell, s, now, s, "", impl.OK)
			}
			for _, now := range []int64{100, 101, 103, 104, 105, 160, 161, 1000000, lastTime - 1, lastTime} {
				checkTick(t, tell, s, now, waiting(z, 1, 8, now+4, until), first, impl.OK)
			}
		}
	}
}

// Asked again and again: each time with an ID of its own, retry apart.
func TestTickSecondaryAgain(t *testing.T) {
	s := waiting(secondZone(t, 1), 0, 65530, 100, 160)
	for n := range int64(20) {
		now := 100 + 4*n
		for ahead := int64(1); ahead <= 4; ahead++ {
			checkTick(t, "ahead of it", s, now-ahead, s, "", impl.OK)
		}
		next := waiting(s.Zone, 1, (65531+n)%65536, now+4, 160)
		checkTick(t, "again", s, now, next, asksSOA(next.ID, inEx()), impl.OK)
		s = next
	}
}

// The ID goes on by one, and from its last to 0.
func TestTickSecondaryID(t *testing.T) {
	z := secondZone(t, 1)
	for _, c := range [][2]int64{{0, 1}, {1, 2}, {254, 255}, {255, 256}, {32767, 32768}, {65533, 65534}, {65534, 65535}, {65535, 0}} {
		for waits := range int64(3) {
			s := waiting(z, waits, c[0], 100, 160)
			checkTick(t, fmt.Sprint("ID ", c[0]), s, 100, waiting(z, 1, c[1], 104, 160), asksSOA(c[1], inEx()), impl.OK)
			checkTick(t, fmt.Sprint("ID ", c[0]), s, 99, s, "", impl.OK)
		}
	}
}

// Next and Until at their ends, and of the zone's times only retry, as one at least.
func TestTickSecondaryTimes(t *testing.T) {
	z := secondZone(t, 1)
	for _, until := range []int64{0, 1, lastTime, lastAhead - 1, lastAhead} {
		for _, now := range []int64{0, 1, 100, lastTime - 1, lastTime} {
			for waits := range int64(3) {
				s := waiting(z, waits, 7, 0, until)
				checkTick(t, "next 0", s, now, waiting(z, 1, 8, now+4, until), asksSOA(8, inEx()), impl.OK)
				for _, next := range []int64{lastTime + 1, lastAhead - 1, lastAhead} {
					s := waiting(z, waits, 7, next, until)
					checkTick(t, "next behind all times", s, now, s, "", impl.OK)
				}
			}
		}
	}
	s := waiting(z, 0, 7, lastTime, 5)
	checkTick(t, "next at the last time", s, lastTime, waiting(z, 1, 8, lastTime+4, 5), asksSOA(8, inEx()), impl.OK)
	checkTick(t, "next at the last time", s, lastTime-1, s, "", impl.OK)
	for _, c := range [][2]int64{{0, 1}, {1, 1}, {2, 2}, {256, 256}, {2147483648, 2147483648}, {greatest, greatest}} {
		for _, other := range []int64{0, 1, 77, greatest} {
			z := timedZone(t, 1, other, c[0], other)
			for _, now := range []int64{5, lastTime} {
				checkTick(t, fmt.Sprint("retry ", c[0]), waiting(z, 2, 7, 5, 9), now, waiting(z, 1, 8, now+c[1], 9), asksSOA(8, inEx()), impl.OK)
			}
		}
	}
}

// What is no secondary, and what is no time, is refused by each function.
func TestNoSecondary(t *testing.T) {
	z := secondZone(t, 1, rrOf(inEx("a"), impl.TypeA, "abcd"))
	fine := waiting(z, 1, 7, 100, 160)
	for tell, z := range noZones(z) {
		checkNoSecondary(t, tell, waiting(z, 1, 7, 100, 160), 100)
	}
	checkNoSecondary(t, "nothing", impl.Secondary{}, 0)
	for _, asked := range []int64{-1, 3, 4, 256, math.MaxInt64, math.MinInt64} {
		checkNoSecondary(t, fmt.Sprint("asked ", asked), waiting(z, asked, 7, 100, 160), 100)
	}
	for _, id := range []int64{-1, 65536, 65537, math.MaxInt64, math.MinInt64} {
		checkNoSecondary(t, fmt.Sprint("ID ", id), waiting(z, 1, id, 100, 160), 100)
	}
	for _, ahead := range []int64{-1, lastAhead + 1, math.MaxInt64, math.MinInt64} {
		checkNoSecondary(t, fmt.Sprint("next ", ahead), waiting(z, 1, 7, ahead, 160), 100)
		checkNoSecondary(t, fmt.Sprint("until ", ahead), waiting(z, 1, 7, 100, ahead), 100)
	}
	for _, now := range []int64{-1, lastTime + 1, lastAhead, math.MaxInt64, math.MinInt64} {
		checkNoSecondary(t, fmt.Sprint("now ", now), fine, now)
	}
	// Those at the ends are secondaries.
	for _, s := range []impl.Secondary{
		fine, waiting(z, 0, 0, 0, 0), waiting(z, 2, 65535, lastAhead, lastAhead), waiting(z, 2, 0, 0, lastAhead), waiting(z, 0, 65535, lastAhead, 0),
	} {
		for _, now := range []int64{0, lastTime} {
			if _, _, code := impl.TickSecondary(s, now); code != impl.OK {
				t.Errorf("TickSecondary(%s, %d) = %d", tellSecondary(s), now, code)
			}
			checkHear(t, "the ends", s, one(""), now, s, "", impl.OK)
			checkAsk(t, "the ends", s, "", false, now, impl.Reply{Case: 1}, impl.OK)
		}
	}
}
