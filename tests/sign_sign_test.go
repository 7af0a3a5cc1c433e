package tests

import (
	"encoding/hex"
	"math"
	"math/rand"
	"strings"
	"testing"

	"loop.example/s01858/impl"
)

// A signature byte by byte, by hand.
func TestSignBytes(t *testing.T) {
	msg := "\x12\x34\x01\x00\x00\x01\x00\x00\x00\x00\x00\x00" + qu(nm("www"), 1, 1)
	k := impl.Key{Name: nm("Key"), Secret: "secret"}
	text := msg + nm("key") + "\x00\xff" + "\x00\x00\x00\x00" + nm("hmac-sha256") +
		"\x01\x02\x03\x04\x05\x06" + "\x01\x2c" + "\x00\x00" + "\x00\x00"
	sum := impl.Hmac([]byte("secret"), []byte(text))
	want := "\x12\x34\x01\x00\x00\x01\x00\x00\x00\x00\x00\x01" + qu(nm("www"), 1, 1) +
		nm("Key") + "\x00\xfa" + "\x00\xff" + "\x00\x00\x00\x00" + "\x00\x3d" + nm("hmac-sha256") +
		"\x01\x02\x03\x04\x05\x06" + "\x01\x2c" + "\x00\x20" + string(sum[:]) + "\x12\x34" + "\x00\x00" + "\x00\x00"
	got, code := impl.Sign([]byte(msg), k, 0x010203040506, "")
	if code != impl.OK || string(got) != want {
		t.Errorf("Sign = %x, %d, want %x", got, code, want)
	}
	sum = impl.Hmac([]byte("secret"), []byte("\x00\x03abc"+text))
	got, code = impl.Sign([]byte(msg), k, 0x010203040506, "abc")
	if code != impl.OK || string(got[len(got)-38:len(got)-6]) != string(sum[:]) {
		t.Errorf("Sign for a request = %x, %d, want the sum %x", got, code, sum)
	}
}

// A sum that another hand made of the same parts.
func TestSignSum(t *testing.T) {
	got, code := impl.Sign([]byte(hd()), keyOf("k", "s"), 1, "")
	want := "7ea2ba92fed3ae58cf1c53449da7399b6a6e083411558b5424f74d6618b90987"
	if code != impl.OK || hex.EncodeToString(got[len(got)-38:len(got)-6]) != want {
		t.Errorf("Sign = %x, %d, want the sum %s", got, code, want)
	}
}

// checkSign holds Sign to what chapter 11 says.
func checkSign(t *testing.T, tell, msg string, k impl.Key, now int64, request string, code int64) {
	t.Helper()
	want, wantCode := signOf(msg, k, now, request)
	if wantCode != code {
		t.Fatalf("%s: the test wants %d, its second reading %d", tell, code, wantCode)
	}
	got, gotCode := impl.Sign([]byte(msg), k, now, request)
	if string(got) != want || gotCode != code {
		t.Errorf("%s: Sign = %.300x, %d, want %.300x, %d", tell, got, gotCode, want, code)
	}
}

func TestSign(t *testing.T) {
	msg, k, long := hd(), keyOf("key", "secret"), keyOf("key", strings.Repeat("s", 64))
	for _, c := range []struct {
		tell    string
		msg     string
		k       impl.Key
		now     int64
		request string
		code    int64
	}{
		{"a head alone", msg, k, 1000, "", impl.OK},
		{"a question", hd(1) + qu(nm("www"), 1, 1), k, 1000, "", impl.OK},
		{"all lists", hd(1, 1, 1, 1) + qu(nm("a"), 1, 1) + strings.Repeat(rec(ptr(12), 1, "1234"), 3), k, 1000, "", impl.OK},
		{"a name in capital letters", msg, keyOf("KEY", "secret"), 1000, "", impl.OK},
		{"the root's key", msg, impl.Key{Name: root, Secret: "secret"}, 1000, "", impl.OK},
		{"the longest name", msg, impl.Key{Name: nameOf(255), Secret: "secret"}, 1000, "", impl.OK},
		{"a secret of any bytes", msg, keyOf("key", "\x00\xff"), 1000, "", impl.OK},
		{"another ID", "\xff\xfe" + msg[2:], k, 1000, "", impl.OK},
		{"what is not decoded", hd(7, 7, 7, 7) + "no entries", k, 1000, "", impl.OK},
		{"what is signed", signedBy(msg, k, 1000, ""), k, 1000, "", impl.OK},
		{"11 bytes", msg[:11], k, 1000, "", impl.ErrForm},
		{"no bytes", "", k, 1000, "", impl.ErrForm},
		{"a key without a name", msg, impl.Key{Secret: "secret"}, 1000, "", impl.ErrForm},
		{"a key whose name is text", msg, impl.Key{Name: "key.", Secret: "secret"}, 1000, "", impl.ErrForm},
		{"a name of 256 bytes", msg, impl.Key{Name: nameOf(256), Secret: "secret"}, 1000, "", impl.ErrForm},
		{"no secret", msg, keyOf("key", ""), 1000, "", impl.ErrForm},
		{"a secret of a byte", msg, keyOf("key", "s"), 1000, "", impl.OK},
		{"a secret of 64 bytes", msg, long, 1000, "", impl.OK},
		{"a secret of 65 bytes", msg, keyOf("key", long.Secret+"s"), 1000, "", impl.ErrForm},
		{"ahead of all times", msg, k, -1, "", impl.ErrForm},
		{"the first time", msg, k, 0, "", impl.OK},
		{"the last time", msg, k, lastTime, "", impl.OK},
		{"behind all times", msg, k, lastTime + 1, "", impl.ErrForm},
		{"the least number", msg, k, math.MinInt64, "", impl.ErrForm},
		{"the greatest number", msg, k, math.MaxInt64, "", impl.ErrForm},
		{"a request's sum", msg, k, 1000, strings.Repeat("q", 32), impl.OK},
		{"a shorter one", msg, k, 1000, "q", impl.OK},
		{"a longer one", msg, k, 1000, strings.Repeat("q", 33), impl.ErrForm},
		{"a fourth count of 255", hd(0, 0, 0, 255), k, 1000, "", impl.OK},
		{"a fourth count of 65534", hd(0, 0, 0, 65534), k, 1000, "", impl.OK},
		{"a fourth count of 65535", hd(0, 0, 0, 65535), k, 1000, "", impl.ErrCount},
		{"other counts of 65535", hd(65535, 65535, 65535, 1), k, 1000, "", impl.OK},
	} {
		checkSign(t, c.tell, c.msg, c.k, c.now, c.request, c.code)
	}
}

// An answer of MaxMessage bytes fits, one of one more does not.
func TestSignSize(t *testing.T) {
	for _, name := range []string{root, nm("key"), nameOf(255)} {
		k := impl.Key{Name: name, Secret: "secret"}
		fits := filled(65535 - 71 - len(name))
		checkSign(t, "it fits", fits, k, 1000, "", impl.OK)
		checkSign(t, "a byte too many", fits+"x", k, 1000, "", impl.ErrSize)
	}
	checkSign(t, "MaxMessage bytes", filled(65535), keyOf("key", "secret"), 0, "", impl.ErrSize)
	checkSign(t, "far more", strings.Repeat("\x00", 300000), keyOf("key", "secret"), 0, "", impl.ErrSize)
}

// Of several faults the one that is told first in the chapter is answered.
func TestSignOrder(t *testing.T) {
	k, full := keyOf("key", "secret"), hd(0, 0, 0, 65535)
	far := full + strings.Repeat("x", 65535)
	checkSign(t, "count and size", far, k, 0, "", impl.ErrCount)
	checkSign(t, "key, count and size", far, keyOf("key", ""), 0, "", impl.ErrForm)
	checkSign(t, "time, count and size", far, k, -1, "", impl.ErrForm)
	checkSign(t, "request, count and size", far, k, 0, strings.Repeat("q", 33), impl.ErrForm)
	checkSign(t, "size and key", hd()+strings.Repeat("x", 65535), impl.Key{Name: "x", Secret: "s"}, 0, "", impl.ErrForm)
}

// Arbitrary bytes, keys, times and requests' sums against a second reading of the chapter.
func TestSignArbitrary(t *testing.T) {
	r := rand.New(rand.NewSource(100))
	for range 1500 {
		msg := string(someBytes(r, r.Intn(80)))
		k, now, request := someKey(r), someTime(r), someRequest(r)
		switch r.Intn(12) {
		case 0:
			k.Secret = strings.Repeat("s", r.Intn(70))
		case 1:
			k.Name = noNames()[r.Intn(len(noNames()))]
		case 2:
			now += lastTime - 1000
		case 3:
			request += strings.Repeat("q", r.Intn(30))
		}
		want, code := signOf(msg, k, now, request)
		if got, gotCode := impl.Sign([]byte(msg), k, now, request); string(got) != want || gotCode != code {
			t.Errorf("Sign(%x, %.200q, %d, %x) = %x, %d, want %x, %d", msg, k, now, request, got, gotCode, want, code)
		}
	}
}
