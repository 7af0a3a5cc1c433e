package tests

import (
	"bytes"
	"math"
	"math/rand"
	"slices"
	"strings"
	"testing"

	"loop.example/s01858/impl"
)

// callSign calls all functions of chapter 11: beside a code there is nothing but what the chapter says.
func callSign(t *testing.T, msg []byte, keys []impl.Key, now int64, request string) {
	t.Helper()
	impl.Sha256(msg)
	impl.Hmac(msg, []byte(request))
	impl.Hmac([]byte(request), msg)
	for _, k := range keys[:min(len(keys), 3)] {
		b, code := impl.Sign(msg, k, now, request)
		if (code == impl.OK) != (len(b) > 0) || !slices.Contains([]int64{impl.OK, impl.ErrForm, impl.ErrCount, impl.ErrSize}, code) {
			t.Errorf("Sign(%.100x, %.100q, %d, %.100q) = %.100x, %d", msg, k, now, request, b, code)
		}
	}
	v := impl.Verify(msg, keys, now, request)
	if v.Code == impl.ErrForm && !sameVerdict(v, impl.Verdict{Code: impl.ErrForm}) || v.Code != impl.ErrForm && len(v.Body) < 12 {
		t.Errorf("Verify(%.100x, %.100q, %d, %.100q) = %s", msg, keys, now, request, tellVerdict(v))
	}
}

// P1: no call panics, and every call ends, whatever it is given.
func TestP1Sign(t *testing.T) {
	r := rand.New(rand.NewSource(102))
	names := append(noNames(), someNames()...)
	times := []int64{0, -1, 1000, lastTime, lastTime + 1, math.MinInt64, math.MaxInt64}
	for n := range 6000 {
		msg := someBytes(r, r.Intn(120))
		if n%2 == 0 {
			msg = bent(r, []byte(signedBy(bodyOf(t, r, 2), keyOf("key", "secret"), 1000, "")))
		}
		var keys []impl.Key
		for range r.Intn(10) {
			k := someKey(r)
			if r.Intn(9) == 0 {
				k = impl.Key{Name: names[r.Intn(len(names))], Secret: strings.Repeat("s", r.Intn(70))}
			}
			keys = append(keys, k)
		}
		callSign(t, msg, keys, times[r.Intn(len(times))], strings.Repeat("q", r.Intn(40)))
	}
	callSign(t, nil, nil, 0, "")
	callSign(t, []byte{}, []impl.Key{}, 0, "")
	callSign(t, []byte(hd()), []impl.Key{{}}, 0, "")
}

// P1: calls with much end, too.
func TestP1SignMuch(t *testing.T) {
	much := strings.Repeat("m", 5000000)
	callSign(t, []byte(much), make([]impl.Key, 1000000), 0, much)
	callSign(t, []byte(hd()+much), []impl.Key{{Name: much, Secret: much}}, 0, "")
	callSign(t, []byte(hd()), []impl.Key{{Name: root, Secret: much}}, 0, much)
	k := impl.Key{Name: nameOf(255), Secret: strings.Repeat("s", 64)}
	body := hd(0, 0, 0, 399) + strings.Repeat(rec(nm("a"), 99, strings.Repeat("f", 140)), 399)
	msg := signedBy(body, k, 5, "")
	want := said(impl.OK, 7, sumOf(body, k, 5, 300, ""), body)
	checkSaid(t, "much", msg, []impl.Key{keyOf("a", "s"), keyOf("b", "s"), keyOf("c", "s"), keyOf("d", "s"), keyOf("e", "s"), keyOf("f", "s"), keyOf("g", "s"), k}, 5, "", want)
}

// P1: nothing is written into an argument, nor behind it; an answer is new memory.
func TestP1SignMemory(t *testing.T) {
	r := rand.New(rand.NewSource(103))
	for range 500 {
		body, k := bodyOf(t, r, 2), someKey(r)
		time, request := someTime(r), someRequest(r)
		keys := append(someKeys(r, 4), k, impl.Key{Name: "left"})
		left := strings.Repeat("l", 400)
		for _, text := range []string{body, signedBy(body, k, time, request), "\xab\xcd" + signedBy(body, k, time, request)[2:]} {
			room := []byte(text + left)
			msg := room[:len(text)]
			keysBefore := slices.Clone(keys)
			impl.Sha256(msg)
			impl.Hmac(msg, msg)
			impl.Hmac(msg[:min(len(msg), 20)], msg)
			signed, _ := impl.Sign(msg, k, time, request)
			v := impl.Verify(msg, keys[:len(keys)-1], time, request)
			if string(room) != text+left || !slices.Equal(keys, keysBefore) {
				t.Fatalf("a call made %x of %x", room, text)
			}
			signedBefore, bodyBefore := slices.Clone(signed), slices.Clone(v.Body)
			clear(room)
			if !bytes.Equal(signed, signedBefore) || !bytes.Equal(v.Body, bodyBefore) {
				t.Fatalf("an answer changed with the message")
			}
		}
	}
}

// P14: what Sign signs is taken by Verify, and the body is the message.
func TestP14Taken(t *testing.T) {
	r := rand.New(rand.NewSource(104))
	for range 3000 {
		body, k := bodyOf(t, r, 4), someKey(r)
		time, request := someTime(r), someRequest(r)
		signed, code := impl.Sign([]byte(body), k, time, request)
		if code != impl.OK {
			t.Fatalf("Sign(%x, %q, %d, %x) = %d", body, k, time, request, code)
		}
		var keys []impl.Key
		for _, other := range someKeys(r, 7) {
			if !impl.SameName(other.Name, k.Name) {
				keys = append(keys, other)
			}
		}
		sum := string(signed[len(signed)-38 : len(signed)-6])
		now := min(max(time+int64(r.Intn(601)-300), 0), lastTime)
		checkSaid(t, "no such key", string(signed), keys, now, request, said(impl.ErrKey, -1, sum, body))
		place := int64(len(keys))
		keys = append(keys, impl.Key{Name: capital(k.Name), Secret: k.Secret})
		checkSaid(t, "that key", string(signed), keys, now, request, said(impl.OK, place, sum, body))
		if late := time + 301 + int64(r.Intn(1000)); late <= lastTime {
			checkSaid(t, "too late", string(signed), keys, late, request, said(impl.ErrTime, place, sum, body))
		}
		if early := time - 301 - int64(r.Intn(1000)); early >= 0 {
			checkSaid(t, "too early", string(signed), keys, early, request, said(impl.ErrTime, place, sum, body))
		}
		checkSaid(t, "another request", string(signed), keys, now, "other", said(impl.ErrSum, place, sum, body))
		keys[place].Secret = "other" + k.Secret[:len(k.Secret)/2]
		checkSaid(t, "another secret", string(signed), keys, now, request, said(impl.ErrSum, place, sum, body))
	}
}

// P14: messages of each kind, up to 399 entries; of 400 the signed one has too many.
func TestP14Kinds(t *testing.T) {
	k := keyOf("key", "secret")
	for _, body := range signedBodies() {
		for _, request := range []string{"", "q", strings.Repeat("q", 32)} {
			signed, code := impl.Sign([]byte(body), k, 7, request)
			if code != impl.OK {
				t.Fatalf("Sign(%.100x) = %d", body, code)
			}
			sum := string(signed[len(signed)-38 : len(signed)-6])
			checkSaid(t, "a kind", string(signed), []impl.Key{k}, 307, request, said(impl.OK, 0, sum, body))
		}
	}
	full := hd(0, 400) + strings.Repeat(rec(root, 1, "1234"), 400)
	signed, code := impl.Sign([]byte(full), k, 7, "")
	if code != impl.OK {
		t.Fatalf("Sign of 400 entries = %d", code)
	}
	checkIll(t, "400 entries", string(signed), []impl.Key{k}, 7, "")
	twice, _ := impl.Sign([]byte(signedBy(hd(), k, 7, "")), k, 7, "")
	checkIll(t, "signed twice", string(twice), []impl.Key{k}, 7, "")
}

// P14: a reply is signed over its request's sum: a chain of messages, each over the one ahead.
func TestP14Chain(t *testing.T) {
	r := rand.New(rand.NewSource(105))
	k, request := keyOf("Key", "secret"), ""
	for n := range int64(50) {
		body := bodyOf(t, r, 2)
		signed, code := impl.Sign([]byte(body), k, n, request)
		v := impl.Verify(signed, []impl.Key{k}, n+300, request)
		if code != impl.OK || v.Code != impl.OK || string(v.Body) != body || len(v.Sum) != 32 {
			t.Fatalf("the message %d is %x, %d, %s", n, signed, code, tellVerdict(v))
		}
		request = v.Sum
	}
}
