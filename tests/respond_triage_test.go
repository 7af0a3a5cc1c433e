package tests

import (
	"math/rand"
	"strings"
	"testing"

	"loop.example/s01858/impl"
)

func checkTriage(t *testing.T, tell, b string, want int64) {
	t.Helper()
	if got := impl.Triage([]byte(b)); got != want {
		t.Errorf("%s: Triage(%.300x) = %d, want %d", tell, b, got, want)
	}
}

// asked is the bytes of a message.
func asked(m impl.Message) string { return layMessage(m, false) }

func TestTriage(t *testing.T) {
	query := asking(inEx("www"), impl.TypeA, 1)
	update := withOp(asking(inEx(), impl.TypeSOA, 1), impl.OpUpdate)
	key := keyOf("key", "secret")
	two := query
	two.Questions = append(two.Questions, query.Questions...)
	none := query
	none.Questions = nil
	answered := query
	answered.Head.QR = true
	for tell, c := range map[string]struct {
		b    string
		want int64
	}{
		"a query":                   {asked(query), impl.TriageQuery},
		"an update":                 {asked(update), impl.TriageUpdate},
		"a query of another class":  {asked(asking(inEx(), impl.TypeA, 3)), impl.TriageQuery},
		"a query for the zone":      {asked(asking(inEx(), impl.TypeAXFR, 1)), impl.TriageQuery},
		"a query of a meta type":    {asked(asking(inEx(), 0, 1)), impl.TriageQuery},
		"with OPT":                  {asked(withExtra(query, optOf(512, 32768))), impl.TriageQuery},
		"with options":              {asked(withExtra(query, optOf(512, 0, optionOf(3, "ab")))), impl.TriageQuery},
		"a code in OPT":             {asked(withExtra(query, optOf(512, 0xff000000))), impl.TriageQuery},
		"an update with OPT":        {asked(withExtra(update, optOf(512, 0))), impl.TriageUpdate},
		"signed":                    {signedBy(asked(query), key, 1000, ""), impl.TriageQuery},
		"an update signed":          {signedBy(asked(update), key, 1000, ""), impl.TriageUpdate},
		"signed with OPT":           {signedBy(asked(withExtra(query, optOf(512, 0))), key, 1000, ""), impl.TriageQuery},
		"no byte":                   {"", impl.TriageDrop},
		"11 bytes":                  {asked(query)[:11], impl.TriageDrop},
		"11 bytes with QR":          {asked(answered)[:11], impl.TriageDrop},
		"12 bytes":                  {asked(query)[:12], impl.TriageForm},
		"12 bytes, no question":     {asked(none), impl.TriageForm},
		"12 bytes with QR":          {asked(answered)[:12], impl.TriageDrop},
		"QR":                        {asked(answered), impl.TriageDrop},
		"QR, else ill":              {asked(answered) + "x", impl.TriageDrop},
		"QR, of another operation":  {asked(withOp(answered, 2)), impl.TriageDrop},
		"QR, far too long":          {asked(answered) + strings.Repeat("x", 70000), impl.TriageDrop},
		"a byte behind":             {asked(query) + "x", impl.TriageForm},
		"a byte lacks":              {asked(query)[:28], impl.TriageForm},
		"too long":                  {asked(query) + strings.Repeat("x", 65536-29), impl.TriageForm},
		"no question":               {asked(withExtra(none, optOf(512, 0))), impl.TriageForm},
		"two questions":             {asked(two), impl.TriageForm},
		"two, of another operation": {asked(withOp(two, 2)), impl.TriageForm},
		"two OPT":                   {asked(withExtra(query, optOf(512, 0), optOf(512, 0))), impl.TriageForm},
		"two OPT, another version":  {asked(withExtra(query, optOf(512, 65536), optOf(512, 0))), impl.TriageForm},
		"OPT not at the root":       {asked(withExtra(query, impl.RR{Owner: inEx(), Type: impl.TypeOPT, Class: 512})), impl.TriageForm},
		"ill options":               {asked(withExtra(query, optOf(512, 0, "x"))), impl.TriageForm},
		"ill, another version":      {asked(withExtra(query, optOf(512, 65536, "x"))), impl.TriageForm},
		"ill, another operation":    {asked(withOp(withExtra(query, optOf(512, 0, "x")), 1)), impl.TriageForm},
		"operation 1":               {asked(withOp(query, 1)), impl.TriageOp},
		"operation 4":               {asked(withOp(query, 4)), impl.TriageOp},
		"operation 6":               {asked(withOp(query, 6)), impl.TriageOp},
		"operation 15":              {asked(withOp(query, 15)), impl.TriageOp},
		"operation 2 and version 1": {asked(withOp(withExtra(query, optOf(512, 65536)), 2)), impl.TriageOp},
		"version 1":                 {asked(withExtra(query, optOf(512, 65536))), impl.TriageVersion},
		"version 255":               {asked(withExtra(query, optOf(512, 255*65536+32768))), impl.TriageVersion},
		"an update of version 1":    {asked(withExtra(update, optOf(512, 65536))), impl.TriageVersion},
		"version 1, signed":         {signedBy(asked(withExtra(query, optOf(512, 65536))), key, 1000, ""), impl.TriageVersion},
		"a signature behind OPT":    {signedBy(asked(withExtra(query, optOf(512, 65536*3))), key, 1, ""), impl.TriageVersion},
	} {
		checkTriage(t, tell, c.b, c.want)
	}
}

// What Verify calls ill formed is ill, whatever the operation and the version; what it only can't know is not.
func TestTriageSignature(t *testing.T) {
	query := asked(asking(inEx("www"), impl.TypeA, 1))
	key := keyOf("key", "secret")
	sign := func(do func(s *tsig)) string {
		s := tsigOf(query, key, 1000, 300, "")
		do(&s)
		return behind(query, s.record())
	}
	record := sign(func(*tsig) {})[len(query):]
	for tell, c := range map[string]struct {
		b    string
		want int64
	}{
		"right":                {sign(func(*tsig) {}), impl.TriageQuery},
		"another sum":          {sign(func(s *tsig) { s.sum = strings.Repeat("s", 32) }), impl.TriageQuery},
		"another time":         {sign(func(s *tsig) { s.time = lastTime }), impl.TriageQuery},
		"another fudge":        {sign(func(s *tsig) { s.fudge = 65535 }), impl.TriageQuery},
		"another ID":           {sign(func(s *tsig) { s.id = "\xff\xff" }), impl.TriageQuery},
		"the root's key":       {sign(func(s *tsig) { s.owner = root }), impl.TriageQuery},
		"capital letters":      {sign(func(s *tsig) { s.alg = "\x0bHMAC-SHA256\x00" }), impl.TriageQuery},
		"another class":        {sign(func(s *tsig) { s.class = 1 }), impl.TriageForm},
		"a time to live":       {sign(func(s *tsig) { s.ttl = 1 }), impl.TriageForm},
		"another algorithm":    {sign(func(s *tsig) { s.alg = "\x0bhmac-sha512\x00" }), impl.TriageForm},
		"another size of sum":  {sign(func(s *tsig) { s.size, s.sum = "\x00\x1f", s.sum[1:] }), impl.TriageForm},
		"an error":             {sign(func(s *tsig) { s.tail = "\x00\x01\x00\x00" }), impl.TriageForm},
		"more behind it":       {sign(func(s *tsig) { s.tail += "\x00" }), impl.TriageForm},
		"twice":                {behind(sign(func(*tsig) {}), record), impl.TriageForm},
		"a record behind it":   {behind(sign(func(*tsig) {}), rec(root, 99, "x")), impl.TriageForm},
		"OPT behind it":        {behind(sign(func(*tsig) {}), root+be(41, 2)+be(512, 2)+be(0, 4)+be(0, 2)), impl.TriageForm},
		"in the answer list":   {query[:6] + "\x00\x01" + query[8:] + record, impl.TriageForm},
		"in the authority":     {query[:8] + "\x00\x01" + query[10:] + record, impl.TriageForm},
		"no data":              {behind(query, withData(nm("key"), 255, 0, "")), impl.TriageForm},
		"another operation":    {"\x12\x34\x10" + sign(func(s *tsig) { s.ttl = 1 })[3:], impl.TriageForm},
		"of another operation": {"\x12\x34\x10" + sign(func(*tsig) {})[3:], impl.TriageOp},
	} {
		checkTriage(t, tell, c.b, c.want)
	}
}

func TestTriageAny(t *testing.T) {
	r := rand.New(rand.NewSource(156))
	met := map[int64]int{}
	for n := range 6000 {
		b := sentTo(t, r, someServer(t, r, apexes()[n%3]), 1000)
		if n%5 == 0 {
			b = asked(someMessage(r, 2))
		}
		if n%7 == 0 {
			b = turned(b, r.Intn(8*len(b)))
		}
		want := triageOf(b)
		checkTriage(t, "any", b, want)
		met[want]++
	}
	for want := int64(1); want <= 6; want++ {
		if met[want] < 50 {
			t.Errorf("met: %v", met)
		}
	}
}
