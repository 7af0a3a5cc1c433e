package tests

import (
	"math"
	"math/rand"
	"strings"
	"testing"

	"loop.example/s01858/impl"
)

// said is the verdict on a body that was signed with a sum.
func said(code, key int64, sum, body string) impl.Verdict {
	return impl.Verdict{Code: code, Signed: true, Key: key, Sum: sum, Body: []byte(body)}
}

// signedBodies are messages that have no signature, of each kind.
func signedBodies() []string {
	opt := root + be(41, 2) + be(1232, 2) + be(0, 4) + be(0, 2)
	return []string{
		hd(),
		"\xff\xff\xff\xff" + hd()[4:],
		hd(1) + qu(nm("www", "example"), 1, 1),
		hd(1) + qu(nm("key"), 250, 255),
		hd(1, 2) + qu(nm("www", "example"), 1, 1) + rec(ptr(12), 5, "\x03web"+ptr(16)) + rec(nm("a"), 1, "1234"),
		hd(1, 1, 1, 1) + qu(nm("a"), 6, 1) + rec(ptr(12), 6, root+root+soaTail) + rec(root, 2, ptr(12)) + opt,
		hd(0, 0, 0, 1) + opt,
		hd(0, 0, 0, 255) + strings.Repeat(rec(nm("a"), 1, "1234"), 255),
		hd(0, 100, 100, 199) + strings.Repeat(rec(root, 1, "1234"), 399),
	}
}

// What is not signed is itself.
func TestVerifyUnsigned(t *testing.T) {
	k := keyOf("key", "secret")
	for _, body := range signedBodies() {
		want := impl.Verdict{Code: impl.OK, Key: -1, Body: []byte(body)}
		checkSaid(t, "not signed", body, []impl.Key{k}, 1000, "", want)
		checkSaid(t, "not signed, no key", body, nil, 0, strings.Repeat("q", 32), want)
	}
}

func TestVerify(t *testing.T) {
	k, other, request := keyOf("key", "secret"), keyOf("other", "secret"), strings.Repeat("q", 32)
	for _, body := range signedBodies() {
		for _, asked := range []string{"", "q", request} {
			s := tsigOf(body, k, 1000, 300, asked)
			msg := behind(body, s.record())
			checkSaid(t, "one key", msg, []impl.Key{k}, 1000, asked, said(impl.OK, 0, s.sum, body))
			checkSaid(t, "the last key", msg, []impl.Key{other, k}, 1000, asked, said(impl.OK, 1, s.sum, body))
			checkSaid(t, "no key", msg, nil, 1000, asked, said(impl.ErrKey, -1, s.sum, body))
			checkSaid(t, "another key", msg, []impl.Key{other}, 1000, asked, said(impl.ErrKey, -1, s.sum, body))
			checkSaid(t, "another secret", msg, []impl.Key{keyOf("key", "Secret")}, 1000, asked, said(impl.ErrSum, 0, s.sum, body))
			checkSaid(t, "another request", msg, []impl.Key{k}, 1000, "x"+asked[:len(asked)/2], said(impl.ErrSum, 0, s.sum, body))
			checkSaid(t, "too late", msg, []impl.Key{other, k}, 1301, asked, said(impl.ErrTime, 1, s.sum, body))
			checkSaid(t, "no key and too late", msg, nil, 5000, asked, said(impl.ErrKey, -1, s.sum, body))
			checkSaid(t, "another secret and too late", msg, []impl.Key{keyOf("key", "S")}, 5000, asked, said(impl.ErrSum, 0, s.sum, body))
		}
	}
}

// A key's name is compared folded, and stands folded in the sum; of several keys the first counts.
func TestVerifyKeys(t *testing.T) {
	body := hd(1) + qu(nm("www"), 1, 1)
	k := impl.Key{Name: nm("Key", "ZONE"), Secret: "secret"}
	s := tsigOf(body, k, 1000, 300, "")
	msg := behind(body, s.record())
	lower, wrong, other := impl.Key{Name: nm("key", "zone"), Secret: "secret"}, impl.Key{Name: nm("KEY", "zone"), Secret: "S"}, keyOf("key", "secret")
	for _, c := range []struct {
		tell      string
		keys      []impl.Key
		code, key int64
	}{
		{"small letters", []impl.Key{lower}, impl.OK, 0},
		{"the first of two", []impl.Key{lower, wrong}, impl.OK, 0},
		{"the first of two is another", []impl.Key{wrong, lower}, impl.ErrSum, 0},
		{"behind others", []impl.Key{other, other, wrong, lower}, impl.ErrSum, 2},
		{"the same key twice", []impl.Key{other, k, lower}, impl.OK, 1},
		{"8 keys", []impl.Key{other, other, other, other, other, other, other, k}, impl.OK, 7},
		{"only others", []impl.Key{other, {Name: root, Secret: "secret"}, {Name: nm("zone"), Secret: "secret"}}, impl.ErrKey, -1},
		{"other marks are no letters", []impl.Key{{Name: nm("key", "zon[")}}, impl.ErrForm, 0},
	} {
		want := said(c.code, c.key, s.sum, body)
		if c.code == impl.ErrForm {
			want = impl.Verdict{Code: c.code}
		}
		checkSaid(t, c.tell, msg, c.keys, 1000, "", want)
	}
	checkIll(t, "9 keys", msg, []impl.Key{other, other, other, other, other, other, other, other, k}, 1000, "")
	at, grave := keyOf("@", "secret"), keyOf("`", "secret")
	s = tsigOf(body, at, 1000, 300, "")
	checkSaid(t, "a mark is no letter", behind(body, s.record()), []impl.Key{grave}, 1000, "", said(impl.ErrKey, -1, s.sum, body))
}

// The owner may be told by a pointer; the body is cut where it begins.
func TestVerifyPointer(t *testing.T) {
	body := hd(1) + qu(nm("www", "key"), 1, 1)
	k := keyOf("key", "secret")
	s := tsigOf(body, k, 1000, 300, "")
	s.owner = ptr(16)
	checkSaid(t, "a pointer", behind(body, s.record()), []impl.Key{k}, 1000, "", said(impl.OK, 0, s.sum, body))
	k = keyOf("x", "secret")
	k.Name = nm("x", "key")
	s = tsigOf(body, k, 1000, 300, "")
	s.owner = "\x01x" + ptr(16)
	checkSaid(t, "a label and a pointer", behind(body, s.record()), []impl.Key{k}, 1000, "", said(impl.OK, 0, s.sum, body))
}

// The sum is made over the original ID, which the body has again.
func TestVerifyID(t *testing.T) {
	body := "\x12\x34" + hd(1)[2:] + qu(nm("www"), 1, 1)
	k := keyOf("key", "secret")
	s := tsigOf(body, k, 1000, 300, "")
	msg := behind("\x99\x98"+body[2:], s.record())
	checkSaid(t, "another ID", msg, []impl.Key{k}, 1000, "", said(impl.OK, 0, s.sum, body))
	checkSaid(t, "another ID, no key", msg, nil, 1000, "", said(impl.ErrKey, -1, s.sum, body))
	s.id = "\x12\x35"
	checkSaid(t, "another original ID", behind(body, s.record()), []impl.Key{k}, 1000, "", said(impl.ErrSum, 0, s.sum, "\x12\x35"+body[2:]))
}

// The time and the fudge: just the fudge apart, and one second more, to both sides.
func TestVerifyTime(t *testing.T) {
	body, k := hd(1)+qu(nm("www"), 1, 1), keyOf("key", "secret")
	for _, time := range []int64{0, 300, 1000, 70000, lastTime - 65535, lastTime - 300, lastTime} {
		for _, fudge := range []int64{0, 1, 299, 300, 301, 65535} {
			s := tsigOf(body, k, time, fudge, "")
			msg := behind(body, s.record())
			for _, apart := range []int64{0, fudge, fudge + 1, -fudge, -fudge - 1, lastTime, -lastTime} {
				now := time + apart
				if now < 0 || now > lastTime {
					checkIll(t, "no time", msg, []impl.Key{k}, now, "")
					continue
				}
				code := int64(impl.OK)
				if apart > fudge || -apart > fudge {
					code = impl.ErrTime
				}
				checkSaid(t, "a time", msg, []impl.Key{k}, now, "", said(code, 0, s.sum, body))
			}
		}
	}
	s := tsigOf(body, k, 1000, 300, "")
	s.fudge = 301
	checkSaid(t, "the sum is over the fudge", behind(body, s.record()), []impl.Key{k}, 1000, "", said(impl.ErrSum, 0, s.sum, body))
	s = tsigOf(body, k, 1000, 300, "")
	s.time = 1001
	checkSaid(t, "the sum is over the time", behind(body, s.record()), []impl.Key{k}, 1000, "", said(impl.ErrSum, 0, s.sum, body))
}

// Arguments that are not valid, with and without a signature.
func TestVerifyArguments(t *testing.T) {
	body, k := hd(1)+qu(nm("www"), 1, 1), keyOf("key", "secret")
	long := keyOf("long", strings.Repeat("s", 64))
	s := tsigOf(body, k, 1000, 300, "")
	for _, msg := range []string{body, behind(body, s.record())} {
		checkIll(t, "no secret", msg, []impl.Key{k, keyOf("other", "")}, 1000, "")
		checkIll(t, "a secret of 65 bytes", msg, []impl.Key{keyOf("key", strings.Repeat("s", 65))}, 1000, "")
		checkIll(t, "a key without a name", msg, []impl.Key{k, {Secret: "secret"}}, 1000, "")
		checkIll(t, "a key of no name", msg, []impl.Key{{Name: "key.", Secret: "secret"}, k}, 1000, "")
		checkIll(t, "9 keys", msg, []impl.Key{k, k, k, k, k, k, k, k, k}, 1000, "")
		for _, now := range []int64{-1, lastTime + 1, math.MinInt64, math.MaxInt64} {
			checkIll(t, "no time", msg, []impl.Key{k}, now, "")
		}
		checkIll(t, "a request's sum of 33 bytes", msg, []impl.Key{k}, 1000, strings.Repeat("q", 33))
	}
	checkSaid(t, "a secret of 64 bytes", behind(body, s.record()), []impl.Key{long, k}, 1000, "", said(impl.OK, 1, s.sum, body))
	for _, name := range noNames() {
		checkIll(t, "a key of no name", body, []impl.Key{{Name: name, Secret: "s"}}, 0, "")
	}
}

// Bytes that Decode does not take.
func TestVerifyIllMessages(t *testing.T) {
	k := keyOf("key", "secret")
	msg := signedBy(hd(1)+qu(nm("www"), 1, 1), k, 1000, "")
	for n := range len(msg) {
		checkIll(t, "bytes end early", msg[:n], []impl.Key{k}, 1000, "")
	}
	checkIll(t, "bytes behind the end", msg+"\x00", []impl.Key{k}, 1000, "")
	checkIll(t, "too many entries", signedBy(hd(0, 400)+strings.Repeat(rec(root, 1, "1234"), 400), k, 1000, ""), []impl.Key{k}, 1000, "")
	checkIll(t, "ill data", signedBy(hd(0, 1)+rec(root, 1, "123"), k, 1000, ""), []impl.Key{k}, 1000, "")
	checkIll(t, "too many bytes", filled(65536), []impl.Key{k}, 1000, "")
	large := filled(65535 - 71 - 5)
	sum := sumOf(large, k, 1000, 300, "")
	checkSaid(t, "MaxMessage bytes", signedBy(large, k, 1000, ""), []impl.Key{k}, 1000, "", said(impl.OK, 0, sum, large))
	checkIll(t, "one more", signedBy(filled(65535-71-4), k, 1000, ""), []impl.Key{k}, 1000, "")
}

// A record of TypeTSIG is no signature but as the last of the fourth list.
func TestVerifyPlaces(t *testing.T) {
	body, k := hd(), keyOf("key", "secret")
	sig := tsigOf(body, k, 1000, 300, "").record()
	a := rec(root, 1, "1234")
	for _, c := range []struct{ tell, msg string }{
		{"in the answer", hd(0, 1) + sig},
		{"in the authority", hd(0, 0, 1) + sig},
		{"in the answer, ahead of the fourth list", hd(0, 1, 0, 1) + sig + a},
		{"in the authority, ahead of the fourth list", hd(0, 0, 1, 1) + sig + a},
		{"not the last", hd(0, 0, 0, 2) + sig + a},
		{"two of them", hd(0, 0, 0, 2) + sig + sig},
		{"two of them, apart", hd(0, 0, 0, 3) + sig + a + sig},
		{"in the answer, too", hd(0, 1, 0, 1) + sig + sig},
		{"in the authority, too", hd(0, 0, 1, 1) + sig + sig},
		{"one without data, too", hd(0, 1, 0, 1) + withData(root, 1, 0, "") + sig},
	} {
		checkIll(t, c.tell, c.msg, []impl.Key{k}, 1000, "")
		checkIll(t, c.tell, c.msg, nil, 1000, "")
	}
	asked := hd(1) + qu(root, 250, 255)
	s := tsigOf(asked, k, 1000, 300, "")
	checkSaid(t, "a question is no record", behind(asked, s.record()), []impl.Key{k}, 1000, "", said(impl.OK, 0, s.sum, asked))
	lone := hd(0, 0, 0, 1) + rec(root, 249, s.data())
	checkSaid(t, "another type", lone, []impl.Key{k}, 1000, "", impl.Verdict{Key: -1, Body: []byte(lone)})
}

// A record of TypeTSIG whose parts are not those of a signature.
func TestVerifyIllRecords(t *testing.T) {
	body, k := hd(), keyOf("key", "secret")
	good := tsigOf(body, k, 1000, 300, "")
	ill := func(tell string, change func(s *tsig)) {
		t.Helper()
		s := good
		change(&s)
		checkIll(t, tell, behind(body, s.record()), []impl.Key{k}, 1000, "")
		checkIll(t, tell, behind(body, s.record()), nil, 1000, "")
	}
	for _, class := range []int64{0, 1, 254, 256, 511, 65535} {
		ill("another class", func(s *tsig) { s.class = class })
	}
	for _, ttl := range []int64{1, 256, 65536, 1 << 24, 1 << 31} {
		ill("another TTL", func(s *tsig) { s.ttl = ttl })
	}
	for _, alg := range []string{root, nm("hmac-sha1"), nm("hmac-sha25"), nm("hmac-sha512"), nm("hmac-sha2567"), nm("hmac", "sha256"), nm("hmac-sha256", "a"), nm("hmac\rsha256"), ""} {
		ill("another algorithm", func(s *tsig) { s.alg = alg })
	}
	for _, size := range []string{"\x00\x1f", "\x00\x21", "\x01\x20", "\x00\x00"} {
		ill("another size of the sum", func(s *tsig) { s.size = size })
	}
	ill("a shorter sum", func(s *tsig) { s.size, s.sum = "\x00\x1f", s.sum[1:] })
	ill("a longer sum", func(s *tsig) { s.size, s.sum = "\x00\x21", s.sum+"x" })
	for i := range 4 {
		ill("another byte at the end", func(s *tsig) { s.tail = s.tail[:i] + "\x01" + s.tail[i+1:] })
	}
	ill("a byte too few", func(s *tsig) { s.tail = s.tail[1:] })
	ill("a byte too many", func(s *tsig) { s.tail += "\x00" })
	ill("other data behind", func(s *tsig) { s.tail = "\x00\x00\x00\x06" + be(1000, 6) })
	for _, i := range []int{0, 1, 2, 3, 4, 5, 6, 7, 8, 9, 10, 11, 12, 21, 22, 57, 58, 59, 60} {
		data := []byte(good.data())
		data[i] ^= 0x80
		checkIll(t, "another byte at a fixed place", behind(body, withData(k.Name, 255, 0, string(data))), []impl.Key{k}, 1000, "")
	}
	for n := range len(good.data()) {
		checkIll(t, "data too short", behind(body, withData(k.Name, 255, 0, good.data()[:n])), []impl.Key{k}, 1000, "")
	}
	checkIll(t, "data far too long", behind(body, withData(k.Name, 255, 0, good.data()+strings.Repeat("x", 5000))), []impl.Key{k}, 1000, "")
}

// The algorithm's name may have capital letters; it is small in the sum.
func TestVerifyAlgorithm(t *testing.T) {
	body, k := hd(), keyOf("key", "secret")
	for _, alg := range []string{nm("HMAC-SHA256"), nm("Hmac-Sha256"), nm("hmac-shA256")} {
		s := tsigOf(body, k, 1000, 300, "")
		s.alg = alg
		checkSaid(t, "capital letters", behind(body, s.record()), []impl.Key{k}, 1000, "", said(impl.OK, 0, s.sum, body))
	}
}

// Every single bit of a signed message counts: what the change of one makes is what a second reading tells, and it is never
// taken as it was, but for the ID and the letters of names, which are not what is signed.
func TestVerifyEveryBit(t *testing.T) {
	k := keyOf("key", "secret")
	body := hd(1, 1) + qu(nm("www"), 1, 1) + rec(ptr(12), 16, st("text"))
	msg := signedBy(body, k, 1000, "q")
	codes := map[int64]int{}
	for i := range len(msg) {
		for bit := range 8 {
			b := []byte(msg)
			b[i] ^= 1 << bit
			want := verifyOf(string(b), []impl.Key{k}, 1000, "q")
			codes[want.Code]++
			if checkSaid(t, "a bit", string(b), []impl.Key{k}, 1000, "q", want); want.Code == impl.OK && want.Signed && string(want.Body) != body {
				t.Errorf("with bit %d of byte %d changed, %x is taken", bit, i, want.Body)
			}
		}
	}
	for _, code := range []int64{impl.OK, impl.ErrForm, impl.ErrKey, impl.ErrSum} {
		if codes[code] < 3 {
			t.Errorf("only %d changes of a bit make %d", codes[code], code)
		}
	}
}

// A sum with one bit changed is wrong, wherever the bit is.
func TestVerifyEverySumBit(t *testing.T) {
	body, k := hd(1)+qu(nm("www"), 1, 1), keyOf("key", "secret")
	for i := range 256 {
		s := tsigOf(body, k, 1000, 300, "")
		sum := []byte(s.sum)
		sum[i/8] ^= 1 << (i % 8)
		s.sum = string(sum)
		checkSaid(t, "a bit of the sum", behind(body, s.record()), []impl.Key{k}, 1000, "", said(impl.ErrSum, 0, s.sum, body))
	}
}

// bentTsig makes one part of a signature another one.
func bentTsig(r *rand.Rand, s *tsig) {
	switch r.Intn(14) {
	case 0:
		s.class = int64(r.Intn(256))
	case 1:
		s.ttl = int64(r.Intn(2))
	case 2:
		s.alg = capital(s.alg)
	case 3:
		s.alg = nm("hmac-sha1")
	case 4:
		s.size = be(int64(31+r.Intn(3)), 2)
	case 5:
		s.sum = s.sum[:31] + "x"
	case 6:
		s.id = "\x00\x01"
	case 7:
		s.tail = s.tail[r.Intn(4):]
	case 8:
		s.owner = capital(s.owner)
	case 9:
		s.time++
	}
}

// Arbitrary messages with arbitrary, now and then bent, signatures, against a second reading of the chapter.
func TestVerifyArbitrary(t *testing.T) {
	r := rand.New(rand.NewSource(101))
	codes := map[int64]int{}
	for range 4000 {
		body, k := bodyOf(t, r, 3), someKey(r)
		time, request, keys := someTime(r), someRequest(r), append(someKeys(r, 3), k)
		fudge := []int64{300, 300, 0, 65535, 1000}[r.Intn(5)]
		s := tsigOf(body, k, time, fudge, request)
		bentTsig(r, &s)
		now := time + int64(r.Intn(5)-2)*(fudge+int64(r.Intn(2)))/2
		msg := behind(body, s.record())
		switch r.Intn(8) {
		case 0:
			keys = someKeys(r, 9)
		case 1:
			request = someRequest(r)
		case 2:
			msg = string(bent(r, []byte(msg)))
		case 3:
			m := someMessage(r, 3)
			b, _ := impl.Encode(m)
			msg = behind(string(b), s.record())
		}
		want := verifyOf(msg, keys, now, request)
		codes[want.Code]++
		checkSaid(t, "arbitrary", msg, keys, now, request, want)
	}
	for _, code := range []int64{impl.OK, impl.ErrForm, impl.ErrKey, impl.ErrSum, impl.ErrTime} {
		if codes[code] < 100 {
			t.Errorf("only %d verdicts are %d", codes[code], code)
		}
	}
}
