package tests

import (
	"fmt"
	"math/rand"
	"testing"

	"loop.example/s01858/impl"
)

// Messages of all kinds to servers of all kinds, held against the second reading.
func TestRespondAny(t *testing.T) {
	r := rand.New(rand.NewSource(154))
	met := map[int64]int{}
	several, behind := 0, 0
	for n := range 6000 {
		s := someServer(t, r, apexes()[n%3])
		now := someTime(r)
		b := sentTo(t, r, s, now)
		checkSecond(t, fmt.Sprint(n), s, b, n%2 == 0, now)
		reply, next, _ := impl.Respond(s, []byte(b), n%2 == 0, now)
		met[reply.Case]++
		if len(reply.Messages) > 1 {
			several++
		}
		if !sameServer(s, next) {
			behind++
		}
	}
	for number := int64(1); number <= 10; number++ {
		if met[number] < 10 {
			t.Errorf("met: %v", met)
		}
	}
	if several == 0 || behind < 100 {
		t.Errorf("%d replies of several messages, %d servers changed", several, behind)
	}
}
