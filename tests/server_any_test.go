package tests

import (
	"math/rand"
	"testing"

	"loop.example/s01858/impl"
)

// The numbers that the document gives.
func TestServerNumbers(t *testing.T) {
	for i, n := range []int64{impl.EventDatagram, impl.EventOpen, impl.EventChunk, impl.EventClose, impl.EventTick, impl.EventReload} {
		if n != int64(i+1) {
			t.Errorf("the kind of events number %d is %d", i+1, n)
		}
	}
	for i, n := range []int64{impl.OutDatagram, impl.OutOpened, impl.OutRefused, impl.OutBytes, impl.OutClosed, impl.OutReloaded, impl.OutFailed} {
		if n != int64(i+1) {
			t.Errorf("the kind of what comes out number %d is %d", i+1, n)
		}
	}
	if impl.MaxConns != 64 || impl.MaxEvents != 1000 || impl.MaxScript != 400000 {
		t.Errorf("the limits are %d, %d, %d", impl.MaxConns, impl.MaxEvents, impl.MaxScript)
	}
}

// Arbitrary scripts, held against a second reading of the chapter.
func TestRunServerAny(t *testing.T) {
	r := rand.New(rand.NewSource(165))
	kinds := map[int64]int{}
	histories := 0
	for n := range 400 {
		s, want, next := someScript(t, r, apexes()[n%3], 1+r.Intn(40))
		checkScript(t, "arbitrary", s, want, next, impl.OK)
		for _, o := range want {
			kinds[o.Kind]++
		}
		if len(next.History) > 1 {
			histories++
		}
	}
	if len(kinds) != 6 || kinds[4] < 400 || kinds[7] < 100 || histories < 100 {
		t.Errorf("the kinds that came out are %v, %d histories were longer than one", kinds, histories)
	}
}
