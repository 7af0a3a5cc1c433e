package tests

import (
	"fmt"
	"math"
	"math/rand"
	"slices"
	"testing"

	"loop.example/s01858/impl"
)

// lastAhead is the last time that a secondary may have for Next and Until.
const lastAhead = 562949953421311

// greatest is the greatest number that four bytes hold.
const greatest = 4294967295

// soaTimed is an SOA's record with a serial, refresh, retry and expire.
func soaTimed(owner string, serial, refresh, retry, expire int64) impl.RR {
	return rrOf(owner, impl.TypeSOA, nm("ns")+nm("admin")+be(serial, 4)+be(refresh, 4)+be(retry, 4)+be(expire, 4)+be(300, 4))
}

// timedZone is a zone of the apex example with these numbers in its SOA, and some records more.
func timedZone(t *testing.T, serial, refresh, retry, expire int64, more ...impl.RR) impl.Zone {
	t.Helper()
	list := []impl.RR{soaTimed(inEx(), serial, refresh, retry, expire), rrOf(inEx(), impl.TypeNS, nm("ns"))}
	return mustBuild(t, append(list, more...), inEx())
}

// secondZone is a zone with refresh 10, retry 4 and expire 60.
func secondZone(t *testing.T, serial int64, more ...impl.RR) impl.Zone {
	t.Helper()
	return timedZone(t, serial, 10, 4, 60, more...)
}

// waiting is a secondary of a zone: what it waits for, the ID of what it asked, Next and Until.
func waiting(z impl.Zone, asked, id, next, until int64) impl.Secondary {
	return impl.Secondary{Zone: z, Asked: asked, ID: id, Next: next, Until: until}
}

func sameSecondary(a, b impl.Secondary) bool {
	return sameZone(a.Zone, b.Zone) && a.Asked == b.Asked && a.ID == b.ID && a.Next == b.Next && a.Until == b.Until
}

// cloneSecondary is a secondary in memory of its own.
func cloneSecondary(s impl.Secondary) impl.Secondary {
	s.Zone = cloneZone(s.Zone)
	return s
}

// tellSecondary writes a secondary for a message of a test.
func tellSecondary(s impl.Secondary) string {
	return fmt.Sprintf("asked %d, ID %d, next %d, until %d, %s", s.Asked, s.ID, s.Next, s.Until, tellZone(s.Zone))
}

// checkStarted holds all that StartSecondary answers against what it should be.
func checkStarted(t *testing.T, tell string, z impl.Zone, now int64, want impl.Secondary, code int64) {
	t.Helper()
	if got, gotCode := impl.StartSecondary(z, now); !sameSecondary(got, want) || gotCode != code {
		t.Errorf("%s: StartSecondary(%s, %d) = %s, %d, want %s, %d", tell, tellZone(z), now, tellSecondary(got), gotCode, tellSecondary(want), code)
	}
}

// checkTick holds all that TickSecondary answers against what it should be.
func checkTick(t *testing.T, tell string, s impl.Secondary, now int64, want impl.Secondary, sent string, code int64) {
	t.Helper()
	got, gotSent, gotCode := impl.TickSecondary(s, now)
	if !sameSecondary(got, want) || string(gotSent) != sent || gotCode != code {
		t.Errorf("%s: TickSecondary(%s, %d) = %s, %x, %d, want %s, %x, %d",
			tell, tellSecondary(s), now, tellSecondary(got), gotSent, gotCode, tellSecondary(want), sent, code)
	}
}

// checkHear holds all that HearSecondary answers against what it should be.
func checkHear(t *testing.T, tell string, s impl.Secondary, msgs [][]byte, now int64, want impl.Secondary, sent string, code int64) {
	t.Helper()
	got, gotSent, gotCode := impl.HearSecondary(s, msgs, now)
	if !sameSecondary(got, want) || string(gotSent) != sent || gotCode != code {
		t.Errorf("%s: HearSecondary(%s, %d messages %.300x, %d) = %s, %x, %d, want %s, %x, %d",
			tell, tellSecondary(s), len(msgs), msgs[:min(len(msgs), 3)], now, tellSecondary(got), gotSent, gotCode, tellSecondary(want), sent, code)
	}
}

// checkUnheard holds that messages are for nothing, at several times.
func checkUnheard(t *testing.T, tell string, s impl.Secondary, msgs [][]byte) {
	t.Helper()
	for _, now := range []int64{0, s.Next, s.Until, lastTime} {
		checkHear(t, tell, s, msgs, now, s, "", impl.OK)
	}
}

// checkAsk holds all that AskSecondary answers against what it should be.
func checkAsk(t *testing.T, tell string, s impl.Secondary, b string, tcp bool, now int64, want impl.Reply, code int64) {
	t.Helper()
	if got, gotCode := impl.AskSecondary(s, []byte(b), tcp, now); !sameReply(got, want) || gotCode != code {
		t.Errorf("%s: AskSecondary(%s, %.300x, %t, %d) = %s, %d, want %s, %d", tell, tellSecondary(s), b, tcp, now, tellReply(got), gotCode, tellReply(want), code)
	}
}

// checkNoSecondary holds that a secondary, or a time, is refused whatever comes, with nothing beside the code.
func checkNoSecondary(t *testing.T, tell string, s impl.Secondary, now int64) {
	t.Helper()
	query := asked(asking(inEx(), impl.TypeA, 1))
	checkTick(t, tell, s, now, impl.Secondary{}, "", impl.ErrForm)
	for _, msgs := range [][][]byte{nil, {nil}, {[]byte(query)}, {[]byte(told(1, inEx()))}, make([][]byte, 3001)} {
		checkHear(t, tell, s, msgs, now, impl.Secondary{}, "", impl.ErrForm)
	}
	for _, b := range []string{"", "ill", query, query + "x", asked(updateMessage(inEx(), nil, nil)), told(1, inEx())} {
		for _, tcp := range []bool{false, true} {
			checkAsk(t, tell, s, b, tcp, now, impl.Reply{}, impl.ErrForm)
		}
	}
}

// asksSOA is the bytes of a message that asks for the SOA of an apex.
func asksSOA(id int64, apex string) string {
	return be(id, 2) + "\x00\x00\x00\x01\x00\x00\x00\x00\x00\x00" + qu(apex, 6, 1)
}

// asksZone is the bytes of a message that asks for what came behind a zone.
func asksZone(id int64, z impl.Zone) string {
	m := impl.Message{Head: impl.Head{ID: id}, Questions: []impl.Question{askSome(z.Apex)}, Authority: []impl.RR{soaIn(z)}}
	return asked(m)
}

// told is the bytes of a message that tells of a change.
func told(id int64, apex string) string {
	return be(id, 2) + "\x20\x00\x00\x01\x00\x00\x00\x00\x00\x00" + qu(apex, 6, 1)
}

// thanks is the bytes of what is sent back for it.
func thanks(id int64, apex string) string {
	return be(id, 2) + "\xa4\x00\x00\x01\x00\x00\x00\x00\x00\x00" + qu(apex, 6, 1)
}

// tellsSOA is a message that answers the question for the SOA of an apex.
func tellsSOA(id int64, apex string, list ...impl.RR) impl.Message {
	return sent(id, []impl.Question{{Name: apex, Type: impl.TypeSOA, Class: impl.ClassIN}}, list...)
}

// one is one message that came.
func one(b string) [][]byte { return [][]byte{[]byte(b)} }

// isSecondary says chapter 17 on valid secondaries once more.
func isSecondary(s impl.Secondary) bool {
	return impl.CheckZone(s.Zone) == impl.OK && slices.Contains([]int64{0, 1, 2}, s.Asked) && s.ID >= 0 && s.ID < 65536 &&
		s.Next >= 0 && s.Next < 562949953421312 && s.Until >= 0 && s.Until < 562949953421312
}

// isNow says chapter 17 on times once more.
func isNow(now int64) bool { return now >= 0 && now < 281474976710656 }

// timesOf is refresh, retry and expire of a zone.
func timesOf(z impl.Zone) (refresh, retry, expire int64) {
	data := soaIn(z).Data
	number := func(behind int) int64 { return max(1, beAt(data, len(data)-behind, 4)) }
	return number(16), number(12), number(8)
}

// startOf says chapter 17 on StartSecondary once more.
func startOf(z impl.Zone, now int64) (impl.Secondary, int64) {
	if impl.CheckZone(z) != impl.OK || !isNow(now) {
		return impl.Secondary{}, impl.ErrForm
	}
	_, _, expire := timesOf(z)
	return impl.Secondary{Zone: z, Next: now, Until: now + expire}, impl.OK
}

// tickOf says chapter 17 on TickSecondary once more.
func tickOf(s impl.Secondary, now int64) (impl.Secondary, string, int64) {
	switch {
	case !isSecondary(s) || !isNow(now):
		return impl.Secondary{}, "", impl.ErrForm
	case now < s.Next:
		return s, "", impl.OK
	}
	_, retry, _ := timesOf(s.Zone)
	s.ID, s.Asked, s.Next = (s.ID+1)%65536, 1, now+retry
	return s, asksSOA(s.ID, s.Zone.Apex), impl.OK
}

// isTold tells whether a message is of the first case.
func isTold(m impl.Message, apex string) bool {
	return !m.Head.QR && m.Head.Op == 4 && len(m.Questions) == 1 && small(m.Questions[0].Name) == small(apex) &&
		m.Questions[0].Type == 6 && m.Questions[0].Class == 1
}

// serialTold is the serial in a message of the second case; false if it is not of that.
func serialTold(m impl.Message, s impl.Secondary) (int64, bool) {
	q := impl.Question{Name: s.Zone.Apex, Type: 6, Class: 1}
	h := m.Head
	h.RD, h.RA, h.Z, h.AD, h.CD = false, false, false, false, false
	if h != (impl.Head{ID: s.ID, QR: true, AA: true}) || len(m.Questions) != 1 || m.Questions[0] != q || len(m.Answer) == 0 {
		return 0, false
	}
	serial, ok := serialIn(m.Answer[0])
	return serial, ok && small(m.Answer[0].Owner) == small(s.Zone.Apex)
}

// restOf is a secondary that has what its primary had at a time.
func restOf(s impl.Secondary, now int64) impl.Secondary {
	refresh, _, expire := timesOf(s.Zone)
	s.Asked, s.Next, s.Until = 0, now+refresh, now+expire
	return s
}

// hearOf says chapter 17 on HearSecondary once more.
func hearOf(s impl.Secondary, msgs [][]byte, now int64) (impl.Secondary, string, int64) {
	switch {
	case !isSecondary(s) || !isNow(now):
		return impl.Secondary{}, "", impl.ErrForm
	case len(msgs) < 1 || len(msgs) > 3000:
		return impl.Secondary{}, "", impl.ErrCount
	}
	m, code := messageOf(string(msgs[0]))
	isOne := len(msgs) == 1 && code == impl.OK
	if isOne && isTold(m, s.Zone.Apex) {
		s.Next = now
		return s, thanks(m.Head.ID, m.Questions[0].Name), impl.OK
	}
	if serial, ok := serialTold(m, s); isOne && ok && s.Asked == 1 {
		if !isAfter(serialOf(s.Zone), serial) {
			return restOf(s, now), "", impl.OK
		}
		s.ID, s.Asked = (s.ID+1)%65536, 2
		return s, asksZone(s.ID, s.Zone), impl.OK
	}
	if z, code := inOf(s.Zone, askSome(s.Zone.Apex), s.ID, msgs); s.Asked == 2 && code == impl.OK {
		s.Zone = z
		return restOf(s, now), "", impl.OK
	}
	return s, "", impl.OK
}

// askOf says chapter 17 on AskSecondary once more.
func askOf(s impl.Secondary, b string, tcp bool, now int64) (impl.Reply, int64) {
	if !isSecondary(s) || !isNow(now) {
		return impl.Reply{}, impl.ErrForm
	}
	m, _ := messageOf(b)
	switch triage := triageOf(b); {
	case triage == 5:
		return oneReply(6, replyTo(m, 5)), impl.OK
	case triage == 6 && now >= s.Until:
		return oneReply(10, replyTo(m, 2)), impl.OK
	}
	reply, _, code := respondOf(impl.Server{Zone: s.Zone}, b, tcp, now)
	return reply, code
}

// withTimes is a zone that has other times in its SOA, whose owner is the apex in its very letters.
func withTimes(t *testing.T, z impl.Zone, refresh, retry, expire int64) impl.Zone {
	t.Helper()
	soa := soaIn(z)
	at := len(soa.Data) - 16
	soa.Owner, soa.Data = z.Apex, soa.Data[:at]+be(refresh, 4)+be(retry, 4)+be(expire, 4)+soa.Data[at+12:]
	return mustBuild(t, append([]impl.RR{soa}, othersIn(z)...), z.Apex)
}

// someTimes makes refresh, retry or expire.
func someTimes(r *rand.Rand) int64 {
	return []int64{0, 1, 2, 10, 60, 3600, 2147483648, greatest - 1, greatest}[r.Intn(9)]
}

// anySecondary makes a valid secondary, and a server that its zone may be of.
func anySecondary(t *testing.T, r *rand.Rand, apex string) (impl.Secondary, impl.Server) {
	t.Helper()
	zones, history := historyOf(t, r, apex, r.Intn(4), 4)
	at := r.Intn(len(zones))
	primary := impl.Server{Zone: zones[len(zones)-1], History: history[r.Intn(len(history)+1):]}
	z := zones[at]
	if r.Intn(3) == 0 {
		z = withTimes(t, z, someTimes(r), someTimes(r), someTimes(r))
	}
	if r.Intn(12) == 0 {
		z = changeZone(t, r, apex, 6)
	}
	return waiting(z, int64(r.Intn(3)), []int64{0, 1, 5, 5, 65534, 65535}[r.Intn(6)], someTime(r)*int64(1+r.Intn(2)), someTime(r)*int64(1+r.Intn(2))), primary
}

// oddTimes are numbers that are no times, and some that are.
func oddTimes() []int64 {
	return []int64{0, 1, lastTime, lastTime + 1, lastAhead, lastAhead + 1, -1, math.MaxInt64, math.MinInt64}
}

// heardOf makes messages for a secondary from its primary: mostly such as it waits for, perhaps bent.
func heardOf(t *testing.T, r *rand.Rand, s impl.Secondary, primary impl.Server) [][]byte {
	t.Helper()
	from := s.Zone
	ask, tcp := asksSOA(s.ID, from.Apex), r.Intn(3) == 0
	kind := s.Asked
	if r.Intn(5) == 0 {
		kind = int64(r.Intn(3))
	}
	switch kind {
	case 0:
		apex := from.Apex
		if r.Intn(3) == 0 {
			apex = capital(apex)
		}
		m, _ := messageOf(told(int64(r.Intn(65536)), apex))
		m.Head.RD, m.Head.AA, m.Head.Code = r.Intn(2) == 0, r.Intn(2) == 0, int64(r.Intn(2))
		if r.Intn(2) == 0 {
			m.Answer = []impl.RR{soaIn(primary.Zone)}
		}
		if r.Intn(6) == 0 {
			bendMessage(r, &m)
		}
		return one(asked(m))
	case 2:
		ask, tcp = asksZone(s.ID, from), true
	}
	reply, _, code := impl.Respond(primary, []byte(ask), tcp, 0)
	if code != impl.OK {
		t.Fatalf("Respond = %d", code)
	}
	msgs := reply.Messages
	if kind == 2 && r.Intn(2) == 0 {
		list, _ := laidIn(askSome(from.Apex), s.ID, msgs)
		msgs = nil
		questions := []impl.Question{askSome(from.Apex)}
		for part := range slices.Chunk(list, 1+r.Intn(3)) {
			msgs = append(msgs, []byte(asked(sent(s.ID, questions, part...))))
			questions = nil
		}
	}
	if len(msgs) > 0 && r.Intn(3) == 0 {
		at := r.Intn(len(msgs))
		m, _ := messageOf(string(msgs[at]))
		bendMessage(r, &m)
		msgs[at] = []byte(asked(m))
	}
	return msgs
}

// bendMessage makes a message somewhat another one, which is mostly no longer what was waited for.
func bendMessage(r *rand.Rand, m *impl.Message) {
	switch r.Intn(12) {
	case 0:
		m.Head.ID = (m.Head.ID + 1) % 65536
	case 1:
		m.Head.QR = !m.Head.QR
	case 2:
		m.Head.AA = !m.Head.AA
	case 3:
		m.Head.TC = !m.Head.TC
	case 4:
		m.Head.Op = int64(r.Intn(16))
	case 5:
		m.Head.Code = int64(r.Intn(16))
	case 6:
		m.Questions = append(m.Questions, m.Questions...)
	case 7:
		m.Questions = nil
	case 8:
		for i := range m.Questions {
			m.Questions[i] = impl.Question{Name: capital(m.Questions[i].Name), Type: []int64{6, 251, 252}[r.Intn(3)], Class: int64(1 + r.Intn(4)/3)}
		}
	case 9:
		for i := range m.Answer {
			m.Answer[i].Owner = capital(m.Answer[i].Owner)
		}
	case 10:
		m.Authority, m.Extra = m.Answer, m.Answer
	case 11:
		m.Head.RD, m.Head.RA, m.Head.Z, m.Head.AD, m.Head.CD = true, true, true, true, true
	}
}
