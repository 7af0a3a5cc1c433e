package tests

import (
	"crypto/hmac"
	"crypto/sha256"
	"encoding/hex"
	"math/rand"
	"strings"
	"testing"

	"loop.example/s01858/impl"
)

// risen is bytes that rise by a step, from a first one on.
func risen(n, step, first int) []byte {
	b := make([]byte, n)
	for i := range b {
		b[i] = byte(step*i + first)
	}
	return b
}

func hexOf(sum [32]byte) string { return hex.EncodeToString(sum[:]) }

func TestSha256(t *testing.T) {
	for _, c := range []struct {
		text []byte
		want string
	}{
		{nil, "e3b0c44298fc1c149afbf4c8996fb92427ae41e4649b934ca495991b7852b855"},
		{[]byte{}, "e3b0c44298fc1c149afbf4c8996fb92427ae41e4649b934ca495991b7852b855"},
		{[]byte("abc"), "ba7816bf8f01cfea414140de5dae2223b00361a396177a9cb410ff61f20015ad"},
		{[]byte("abcdbcdecdefdefgefghfghighijhijkijkljklmklmnlmnomnopnopq"), "248d6a61d20638b8e5c026930c3e6039a33ce45964ff2167f6ecedd419db06c1"},
		{[]byte(strings.Repeat("a", 1000000)), "cdc76e5c9914fb9281a1c7e284d73e67f1809a48a497200e046d39ccc7112cd0"},
		{risen(1, 7, 3), "084fed08b978af4d7d196a7446a86b58009e636b611db16211b65a9aadff29c5"},
		{risen(55, 7, 3), "e7313d333c272e639f790978283f9eb392e843d0f29b7016828bb1daa4aac70b"},
		{risen(56, 7, 3), "4324d65f3c103567f5589c710bc08f8523f929a9272e3af36fc968e52abc6c27"},
		{risen(57, 7, 3), "35df609437dcfea3279283ab79fd554e2bf78f8f7ae2de532d8ee300b09e8f73"},
		{risen(63, 7, 3), "81c80242132f230c3bd41b3e63bbcff16107339549214a99614ff26664625055"},
		{risen(64, 7, 3), "39e3d7b6b5d075d37d053ad89b24b41bef4f3c29760c84447cab3f3be1882241"},
		{risen(65, 7, 3), "aacca6ff74fdbb296d165a45cecfa04e5127bc008770fbbdd48006f2d2fae95e"},
		{risen(119, 7, 3), "9ce7368e4daf32341631b492e80359dc9f594b48453cd0dd5bf0b19279cc177e"},
		{risen(120, 7, 3), "7836b787757e95e58b3ca5aec90b1b004e8deba1e50e9675af9cabf1a13a04b5"},
		{risen(128, 7, 3), "d2742f1f4ac6bb7ca2b239ee18402ba8b3f9f8e652d2a72973c2b9ba11c08cf6"},
		{risen(200, 7, 3), "2c7e18c942ef065b526a2d4e5546283749cd3ddfb51d8fc71f42717363685f46"},
	} {
		if got := hexOf(impl.Sha256(c.text)); got != c.want {
			t.Errorf("Sha256 of %d bytes (%.20x) = %s, want %s", len(c.text), c.text, got, c.want)
		}
	}
}

// Every length of up to six blocks, and some of many, against another hand's hash.
func TestSha256EveryLength(t *testing.T) {
	r := rand.New(rand.NewSource(98))
	for n := range 600 {
		size := n
		if n > 390 {
			size = r.Intn(5000)
		}
		b := make([]byte, size)
		r.Read(b)
		if got, want := impl.Sha256(b), sha256.Sum256(b); got != want {
			t.Errorf("Sha256(%x) = %x, want %x", b, got, want)
		}
	}
}

func TestHmac(t *testing.T) {
	told := []byte("what is told")
	for _, c := range []struct {
		key, text []byte
		want      string
	}{
		{nil, told, "44bea4f5fb035339650fed154351cff25876bc134759cd5a7c9aa34e3628720f"},
		{risen(1, 5, 1), told, "f8c8a1e3081d7a92e41de251bdecade07f3291f9efd5c5d9cbb519b04fa7c377"},
		{risen(63, 5, 1), told, "6ca8deaecbca9347d358dc9e07cb14bd964de4b092e8a42eed6dd35da87102fc"},
		{risen(64, 5, 1), told, "77ee8f42a7ea2a2c828288f8fd0469edaa122c2b664b69859bcb1cde50233b96"},
		{risen(65, 5, 1), told, "097a19bea9cf03929eb8c6a141c41b747ac375534983db889ca7b5e175f5b4df"},
		{risen(200, 5, 1), told, "ec474d2b948be61b4ebb1906286883228280a602568ae44deb55898e292e82c9"},
		{[]byte(strings.Repeat("\x0b", 20)), []byte("Hi There"), "b0344c61d8db38535ca8afceaf0bf12b881dc200c9833da726e9376c2e32cff7"},
		{[]byte("Jefe"), []byte("what do ya want for nothing?"), "5bdcc146bf60754e6a042426089575c75a003f089d2739839dec58b964ec3843"},
	} {
		if got := hexOf(impl.Hmac(c.key, c.text)); got != c.want {
			t.Errorf("Hmac(%x, %q) = %s, want %s", c.key, c.text, got, c.want)
		}
	}
}

// Keys and texts of every length of up to three blocks, against another hand's sum.
func TestHmacEveryLength(t *testing.T) {
	r := rand.New(rand.NewSource(99))
	for n := range 200 {
		key, b := make([]byte, n), make([]byte, r.Intn(200))
		r.Read(key)
		r.Read(b)
		h := hmac.New(sha256.New, key)
		h.Write(b)
		if got, want := impl.Hmac(key, b), h.Sum(nil); string(got[:]) != string(want) {
			t.Errorf("Hmac(%x, %x) = %x, want %x", key, b, got, want)
		}
	}
}
