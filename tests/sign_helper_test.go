package tests

import (
	"bytes"
	"crypto/hmac"
	"crypto/sha256"
	"fmt"
	"math/rand"
	"strings"
	"testing"

	"loop.example/s01858/impl"
)

// lastTime is the latest time that six bytes can tell.
const lastTime = 281474976710655

// algName is the name of the sum that signatures have.
const algName = "\x0bhmac-sha256\x00"

// keyOf is a key by the name of one label.
func keyOf(label, secret string) impl.Key { return impl.Key{Name: nm(label), Secret: secret} }

// sumOf says chapter 11 on the sum of a message once more, by another hand's hash.
func sumOf(body string, k impl.Key, time, fudge int64, request string) string {
	h := hmac.New(sha256.New, []byte(k.Secret))
	if len(request) > 0 {
		h.Write([]byte(be(int64(len(request)), 2) + request))
	}
	h.Write([]byte(body))
	h.Write([]byte(small(k.Name) + "\x00\xff\x00\x00\x00\x00" + algName))
	h.Write([]byte(be(time, 6) + be(fudge, 2) + "\x00\x00\x00\x00"))
	return string(h.Sum(nil))
}

// tsig is the parts of a signature's record, so that a test may make each another one.
type tsig struct {
	owner      string
	class, ttl int64
	alg        string
	time       int64
	fudge      int64
	size       string
	sum        string
	id         string
	tail       string
}

// tsigOf is the signature that a body gets by a key.
func tsigOf(body string, k impl.Key, time, fudge int64, request string) tsig {
	return tsig{
		owner: k.Name, class: 255, alg: algName, time: time, fudge: fudge, size: "\x00\x20",
		sum: sumOf(body, k, time, fudge, request), id: body[:2], tail: "\x00\x00\x00\x00",
	}
}

func (s tsig) data() string {
	return s.alg + be(s.time, 6) + be(s.fudge, 2) + s.size + s.sum + s.id + s.tail
}

// record is the bytes of a signature's record.
func (s tsig) record() string { return withData(s.owner, s.class, s.ttl, s.data()) }

// withData is the bytes of a record of TypeTSIG.
func withData(owner string, class, ttl int64, data string) string {
	return owner + be(250, 2) + be(class, 2) + be(ttl, 4) + be(int64(len(data)), 2) + data
}

// behind is a message with the bytes of one record more in its fourth list.
func behind(body, record string) string {
	return body[:10] + be(beAt(body, 10, 2)+1, 2) + body[12:] + record
}

// signedBy is a body signed by a key as it asks for, at a time.
func signedBy(body string, k impl.Key, time int64, request string) string {
	return behind(body, tsigOf(body, k, time, 300, request).record())
}

// isKey says chapter 11 on valid keys once more.
func isKey(k impl.Key) bool { return isName(k.Name) && len(k.Secret) >= 1 && len(k.Secret) <= 64 }

// signOf says chapter 11 on Sign once more.
func signOf(msg string, k impl.Key, now int64, request string) (string, int64) {
	switch {
	case len(msg) < 12 || !isKey(k) || now < 0 || now > lastTime || len(request) > 32:
		return "", impl.ErrForm
	case msg[10:12] == "\xff\xff":
		return "", impl.ErrCount
	case len(msg)+len(k.Name)+71 > 65535:
		return "", impl.ErrSize
	}
	return signedBy(msg, k, now, request), impl.OK
}

// tsigAt reads a signature off the bytes of a record's data, if it is one.
func tsigAt(rr impl.RR) (tsig, bool) {
	d := rr.Data
	if rr.Class != 255 || rr.TTL != 0 || len(d) != 61 || small(d[:13]) != algName || d[21:23] != "\x00\x20" || d[57:] != "\x00\x00\x00\x00" {
		return tsig{}, false
	}
	return tsig{owner: rr.Owner, time: beAt(d, 13, 6), fudge: beAt(d, 19, 2), sum: d[23:55], id: d[55:57]}, true
}

// lastTsig is the signature of a message that is well formed, and where it begins: -1 if there is none, and false if one
// stands where none may.
func lastTsig(msg string) (tsig, int, bool) {
	at, left := 12, int64(0)
	for i := range 4 {
		left += beAt(msg, 4+2*i, 2)
	}
	questions, extra := beAt(msg, 4, 2), beAt(msg, 10, 2)
	for n := int64(0); n < left; n++ {
		rr, next, _ := entryAt(msg, at, n < questions)
		if n >= questions && rr.Type == 250 {
			s, ok := tsigAt(rr)
			return s, at, ok && n == left-1 && extra > 0
		}
		at = next
	}
	return tsig{}, -1, true
}

// verifyOf says chapter 11 on Verify once more.
func verifyOf(msg string, keys []impl.Key, now int64, request string) impl.Verdict {
	ill := impl.Verdict{Code: impl.ErrForm}
	if _, code := messageOf(msg); code != impl.OK || len(keys) > 8 || now < 0 || now > lastTime || len(request) > 32 {
		return ill
	}
	for _, k := range keys {
		if !isKey(k) {
			return ill
		}
	}
	s, at, ok := lastTsig(msg)
	switch {
	case !ok:
		return ill
	case at < 0:
		return impl.Verdict{Key: -1, Body: []byte(msg)}
	}
	body := s.id + msg[2:10] + be(beAt(msg, 10, 2)-1, 2) + msg[12:at]
	v := impl.Verdict{Code: impl.ErrKey, Signed: true, Key: -1, Sum: s.sum, Body: []byte(body)}
	for i := len(keys) - 1; i >= 0; i-- {
		if small(keys[i].Name) == small(s.owner) {
			v.Key = int64(i)
		}
	}
	switch {
	case v.Key < 0:
	case s.sum != sumOf(body, keys[v.Key], s.time, s.fudge, request):
		v.Code = impl.ErrSum
	case max(now-s.time, s.time-now) > s.fudge:
		v.Code = impl.ErrTime
	default:
		v.Code = impl.OK
	}
	return v
}

func sameVerdict(a, b impl.Verdict) bool {
	return a.Code == b.Code && a.Signed == b.Signed && a.Key == b.Key && a.Sum == b.Sum && bytes.Equal(a.Body, b.Body)
}

func tellVerdict(v impl.Verdict) string {
	return fmt.Sprintf("{%d %t %d %x %.300x}", v.Code, v.Signed, v.Key, v.Sum, v.Body)
}

// checkSaid holds Verify to all fields of a verdict.
func checkSaid(t *testing.T, tell, msg string, keys []impl.Key, now int64, request string, want impl.Verdict) {
	t.Helper()
	if got := impl.Verify([]byte(msg), keys, now, request); !sameVerdict(got, want) {
		t.Errorf("%s: Verify(%.300x, %.200q, %d, %x) = %s, want %s", tell, msg, keys, now, request, tellVerdict(got), tellVerdict(want))
	}
}

// checkIll holds Verify to ErrForm, with nothing beside.
func checkIll(t *testing.T, tell, msg string, keys []impl.Key, now int64, request string) {
	t.Helper()
	checkSaid(t, tell, msg, keys, now, request, impl.Verdict{Code: impl.ErrForm})
}

// someKey makes a valid key, its name one of few.
func someKey(r *rand.Rand) impl.Key {
	names := []string{root, nm("key"), nm("KEY"), nm("Key", "zone"), nm("key", "ZONE"), nm("a", "zone"), nameOf(255)}
	sizes := []int{1, 2, 6, 32, 63, 64}
	return impl.Key{Name: names[r.Intn(len(names))], Secret: string(someBytes(r, sizes[r.Intn(len(sizes))]))}
}

// someKeys makes at most so many keys.
func someKeys(r *rand.Rand, most int) []impl.Key {
	var list []impl.Key
	for range r.Intn(most + 1) {
		list = append(list, someKey(r))
	}
	return list
}

// someRequest makes a request's sum, or none.
func someRequest(r *rand.Rand) string {
	sizes := []int{0, 0, 1, 31, 32, 32}
	return string(someBytes(r, sizes[r.Intn(len(sizes))]))
}

// someTime makes a time, now and then one at the ends.
func someTime(r *rand.Rand) int64 {
	ends := []int64{0, 1, 299, 300, 301, 1000, lastTime - 301, lastTime - 300, lastTime - 1, lastTime}
	if r.Intn(3) == 0 {
		return ends[r.Intn(len(ends))]
	}
	return r.Int63() >> (15 + r.Intn(48))
}

// bodyOf makes the bytes of a message that has no record of TypeTSIG.
func bodyOf(t *testing.T, r *rand.Rand, most int) string {
	t.Helper()
	m := someMessage(r, most)
	for _, list := range recordLists(&m) {
		for i := range *list {
			if rr := &(*list)[i]; rr.Type == impl.TypeTSIG {
				rr.Type = 249
			}
		}
	}
	b, code := impl.Encode(m)
	if code != impl.OK {
		t.Fatalf("Encode = %d", code)
	}
	return string(b)
}

// filled is a message of so many bytes (at least 1050) that Decode takes: one record that is filled up.
func filled(size int) string {
	return hd(0, 1) + rec(root, 99, strings.Repeat("f", size-12-11))
}
