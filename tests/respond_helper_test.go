package tests

import (
	"bytes"
	"fmt"
	"math/rand"
	"slices"
	"strings"
	"testing"

	"loop.example/s01858/impl"
)

// optOf is a record of TypeOPT as a sender lays it.
func optOf(size, ttl int64, data ...string) impl.RR {
	return impl.RR{Owner: root, Type: impl.TypeOPT, Class: size, TTL: ttl, Data: strings.Join(data, "")}
}

// optionOf is the bytes of an option.
func optionOf(code int64, data string) string { return be(code, 2) + be(int64(len(data)), 2) + data }

// optionsOf reads options; false if the data are not just such.
func optionsOf(data string) ([]impl.Option, bool) {
	var out []impl.Option
	for at := 0; at < len(data); {
		if at+4 > len(data) || at+4+int(beAt(data, at+2, 2)) > len(data) {
			return nil, false
		}
		end := at + 4 + int(beAt(data, at+2, 2))
		out = append(out, impl.Option{Code: beAt(data, at, 2), Data: data[at+4 : end]})
		at = end
	}
	return out, true
}

// ednsOf says chapter 15 on ReadEdns once more.
func ednsOf(m impl.Message) (impl.Edns, int64) {
	isOpt := func(rr impl.RR) bool { return rr.Type == 41 }
	found := slices.DeleteFunc(slices.Clone(m.Extra), func(rr impl.RR) bool { return !isOpt(rr) })
	if slices.ContainsFunc(slices.Concat(m.Answer, m.Authority), isOpt) || len(found) > 1 {
		return impl.Edns{}, impl.ErrForm
	}
	if len(found) == 0 {
		return impl.Edns{}, impl.OK
	}
	options, ok := optionsOf(found[0].Data)
	if found[0].Owner != root || !ok {
		return impl.Edns{}, impl.ErrForm
	}
	low := uint32(found[0].TTL)
	return impl.Edns{Present: true, Size: found[0].Class, Version: int64(byte(low >> 16)), Flags: int64(uint16(low)), Options: options}, impl.OK
}

func sameEdns(a, b impl.Edns) bool {
	return a.Present == b.Present && a.Size == b.Size && a.Version == b.Version && a.Flags == b.Flags && slices.Equal(a.Options, b.Options)
}

// triageOf says chapter 15 on Triage once more.
func triageOf(b string) int64 {
	if len(b) < 12 || headAt(b).QR {
		return 1
	}
	m, code := messageOf(b)
	if code != impl.OK || len(m.Questions) != 1 || verifyOf(b, nil, 0, "").Code == impl.ErrForm {
		return 2
	}
	e, code := ednsOf(m)
	switch {
	case code != impl.OK:
		return 2
	case m.Head.Op != 0 && m.Head.Op != 5:
		return 3
	case e.Version > 0:
		return 4
	case m.Head.Op == 5:
		return 5
	}
	return 6
}

// runOf is a run: a list of a message, and the places in it from one up to another.
type runOf struct{ list, from, to int }

// runsOf is the runs of a message, in the order in which they are dropped.
func runsOf(m impl.Message) []runOf {
	var out []runOf
	for i, list := range recordLists(&m) {
		for at, rr := range *list {
			if i == 2 && rr.Type == 41 {
				continue
			}
			if n := len(out); n > 0 && out[n-1].list == i && out[n-1].to == at {
				ahead := (*list)[at-1]
				if ahead.Owner == rr.Owner && ahead.Type == rr.Type && ahead.Class == rr.Class {
					out[n-1].to++
					continue
				}
			}
			out = append(out, runOf{i, at, at + 1})
		}
	}
	slices.Reverse(out)
	return out
}

// withoutRuns is a message without some runs, of which none lies ahead of another in its list.
func withoutRuns(m impl.Message, runs []runOf) impl.Message {
	m.Answer, m.Authority, m.Extra = slices.Clone(m.Answer), slices.Clone(m.Authority), slices.Clone(m.Extra)
	for _, run := range runs {
		list := recordLists(&m)[run.list]
		*list = slices.Delete(*list, run.from, run.to)
		m.Head.TC = m.Head.TC || run.list < 2
	}
	return m
}

// truncateOf says chapter 15 on Truncate once more.
func truncateOf(m impl.Message, budget int64) (impl.Message, int64) {
	if !isValid(m) {
		return impl.Message{}, impl.ErrForm
	}
	runs := runsOf(m)
	for n := range runs {
		if out := withoutRuns(m, runs[:n]); int64(len(layMessage(out, false))) <= budget {
			return out, impl.OK
		}
	}
	return withoutRuns(m, runs), impl.OK
}

// isServer says chapter 15 on valid servers once more.
func isServer(s impl.Server) bool {
	if impl.CheckZone(s.Zone) != impl.OK || len(s.History) > 40 || len(s.Keys) > 8 {
		return false
	}
	for _, k := range s.Keys {
		if !isKey(k) {
			return false
		}
	}
	next := soaIn(s.Zone)
	for i := len(s.History) - 1; i >= 0; i-- {
		c := s.History[i]
		if c.New != next || len(c.Del) > 500 || len(c.Add) > 500 {
			return false
		}
		for _, rr := range slices.Concat([]impl.RR{c.Old, c.New}, c.Del, c.Add) {
			if !isValid(answers(rr)) {
				return false
			}
		}
		next = c.Old
	}
	return true
}

// replying is a message that is answered, as the second reading of chapter 15 knows it.
type replying struct {
	s   impl.Server
	m   impl.Message
	e   impl.Edns
	v   impl.Verdict
	tcp bool
	now int64
}

func (p replying) isSigned() bool { return p.v.Signed && p.v.Code == impl.OK }

// room is how many bytes the signature of a reply has.
func (p replying) room() int64 {
	if !p.isSigned() {
		return 0
	}
	return int64(len(p.s.Keys[p.v.Key].Name)) + 71
}

// signed is a message, signed if it must be.
func (p replying) signed(b string) []byte {
	if p.isSigned() {
		b = signedBy(b, p.s.Keys[p.v.Key], p.now, p.v.Sum)
	}
	return []byte(b)
}

// replyTo is the reply to a message that has just a code.
func replyTo(m impl.Message, code int64) impl.Message {
	return impl.Message{Head: impl.Head{ID: m.Head.ID, QR: true, Op: m.Head.Op, RD: m.Head.RD, Code: code}, Questions: m.Questions}
}

// pack is a reply as it is sent.
func (p replying) pack(m impl.Message, high int64) []byte {
	if p.e.Present {
		m.Extra = append(slices.Clone(m.Extra), optOf(4096, high*16777216+p.e.Flags/32768*32768))
	}
	budget := int64(512)
	if p.e.Present {
		budget = max(512, min(4096, p.e.Size))
	}
	if p.tcp {
		budget = 65535
	}
	out, code := truncateOf(m, budget-p.room())
	if code != impl.OK {
		return []byte(layMessage(replyTo(p.m, 2), false))
	}
	return p.signed(layMessage(out, false))
}

// says is a reply of a case that has just a code.
func (p replying) says(number, code int64) impl.Reply {
	return impl.Reply{Case: number, Messages: [][]byte{p.pack(replyTo(p.m, code), 0)}}
}

// isStrange tells whether there are keys, and none signed.
func (p replying) isStrange() bool { return len(p.s.Keys) > 0 && !p.v.Signed }

// update says what is done with a change, and the server behind it.
func (p replying) update() (impl.Reply, impl.Server) {
	if p.isStrange() {
		return p.says(6, 5), p.s
	}
	z, code, _ := updateOf(p.s.Zone, p.m)
	next := p.s
	if !sameZone(z, p.s.Zone) {
		c, _ := diffOf(p.s.Zone, z)
		next.Zone, next.History = z, append(slices.Clone(p.s.History), c)
		next.History = next.History[max(0, len(next.History)-40):]
	}
	return p.says(6, code), next
}

// transfer says what is done when the zone is asked for.
func (p replying) transfer(q impl.Question) impl.Reply {
	serial := int64(0)
	switch {
	case !p.tcp || p.isStrange():
		return p.says(8, 5)
	case q.Name != p.s.Zone.Apex:
		return p.says(8, 9)
	case q.Type == 251:
		if len(p.m.Authority) != 1 || small(p.m.Authority[0].Owner) != small(q.Name) {
			return p.says(8, 1)
		}
		from, ok := serialIn(p.m.Authority[0])
		if !ok {
			return p.says(8, 1)
		}
		serial = from
	}
	list, _ := outOf(p.s.Zone, p.s.History, q.Type, serial)
	msgs, code := splitOf(p.m.Head.ID, q, list, 4096-p.room())
	if code != impl.OK {
		return p.says(8, 2)
	}
	out := impl.Reply{Case: 8}
	for _, b := range msgs {
		out.Messages = append(out.Messages, p.signed(b))
	}
	return out
}

// look says what is answered to a question.
func (p replying) look(q impl.Question) impl.Reply {
	result := resultOf(p.s.Zone, q.Name, q.Type)
	m := replyTo(p.m, result.Code)
	m.Head.AA, m.Answer, m.Authority, m.Extra = result.AA, result.Answer, result.Authority, result.Extra
	if p.e.Flags >= 32768 {
		m.Authority = append(m.Authority, denyOf(p.s.Zone, result.Last, q.Type)...)
	}
	return impl.Reply{Case: 10, Messages: [][]byte{p.pack(m, 0)}}
}

// respondOf says chapter 15 on Respond once more.
func respondOf(s impl.Server, b string, tcp bool, now int64) (impl.Reply, impl.Server, int64) {
	if !isServer(s) || now < 0 || now > lastTime {
		return impl.Reply{}, impl.Server{}, impl.ErrForm
	}
	triage := triageOf(b)
	switch triage {
	case 1:
		return impl.Reply{Case: 1}, s, impl.OK
	case 2:
		m := impl.Message{Head: headAt(b)}
		return impl.Reply{Case: 2, Messages: [][]byte{[]byte(layMessage(replyTo(m, 1), false))}}, s, impl.OK
	}
	p := replying{s: s, v: verifyOf(b, s.Keys, now, ""), tcp: tcp, now: now}
	p.m, _ = messageOf(b)
	p.e, _ = ednsOf(p.m)
	q := p.m.Questions[0]
	switch {
	case triage == 3:
		return p.says(3, 4), s, impl.OK
	case triage == 4:
		return impl.Reply{Case: 4, Messages: [][]byte{p.pack(replyTo(p.m, 0), 1)}}, s, impl.OK
	case p.v.Code != impl.OK:
		return p.says(5, 9), s, impl.OK
	case triage == 5:
		reply, next := p.update()
		return reply, next, impl.OK
	case q.Class != 1 || !under(q.Name, s.Zone.Apex):
		return p.says(7, 5), s, impl.OK
	case q.Type == 251 || q.Type == 252:
		return p.transfer(q), s, impl.OK
	case isMetaType(q.Type) && q.Type != 255:
		return p.says(9, 4), s, impl.OK
	}
	return p.look(q), s, impl.OK
}

func sameReply(a, b impl.Reply) bool {
	return a.Case == b.Case && slices.EqualFunc(a.Messages, b.Messages, bytes.Equal)
}

func sameServer(a, b impl.Server) bool {
	return sameZone(a.Zone, b.Zone) && slices.EqualFunc(a.History, b.History, sameChange) && slices.Equal(a.Keys, b.Keys)
}

// cloneServer is a server in memory of its own.
func cloneServer(s impl.Server) impl.Server {
	s.Zone, s.History, s.Keys = cloneZone(s.Zone), slices.Clone(s.History), slices.Clone(s.Keys)
	for i, c := range s.History {
		s.History[i] = cloneChange(c)
	}
	return s
}

// tellMessage writes a message for a message of a test.
func tellMessage(m impl.Message) string {
	return fmt.Sprintf("%+v %+v; answer %s; authority %s; extra %s",
		m.Head, m.Questions, tellRecords(m.Answer), tellRecords(m.Authority), tellRecords(m.Extra))
}

// tellReply writes a reply for a message of a test.
func tellReply(r impl.Reply) string {
	out := fmt.Sprintf("case %d, %d messages", r.Case, len(r.Messages))
	for _, b := range r.Messages[:min(len(r.Messages), 4)] {
		out += fmt.Sprintf(" %.400x", b)
	}
	return out
}

// tellServer writes a server for a message of a test.
func tellServer(s impl.Server) string {
	return fmt.Sprintf("%s, %d changes, %d keys", tellZone(s.Zone), len(s.History), len(s.Keys))
}

// checkRespond holds all that Respond answers against what it should be.
func checkRespond(t *testing.T, tell string, s impl.Server, b string, tcp bool, now int64, want impl.Reply, next impl.Server, code int64) {
	t.Helper()
	got, gotNext, gotCode := impl.Respond(s, []byte(b), tcp, now)
	if !sameReply(got, want) || !sameServer(gotNext, next) || gotCode != code {
		t.Errorf("%s: Respond(%s, %.400x, %t, %d) = %s; %s; %d, want %s; %s; %d", tell, tellServer(s), b, tcp, now,
			tellReply(got), tellServer(gotNext), gotCode, tellReply(want), tellServer(next), code)
	}
}

// checkSecond holds Respond against its second reading.
func checkSecond(t *testing.T, tell string, s impl.Server, b string, tcp bool, now int64) {
	t.Helper()
	want, next, code := respondOf(s, b, tcp, now)
	checkRespond(t, tell, s, b, tcp, now, want, next, code)
}

// asking is a message with the ID 4660 and RD that asks one question.
func asking(name string, rtype, class int64, extra ...impl.RR) impl.Message {
	return impl.Message{
		Head:      impl.Head{ID: 0x1234, RD: true},
		Questions: []impl.Question{{Name: name, Type: rtype, Class: class}},
		Extra:     extra,
	}
}

// withOp is a message of another operation.
func withOp(m impl.Message, op int64) impl.Message {
	m.Head.Op = op
	return m
}

// withExtra is a message with more records at the end of its extra list.
func withExtra(m impl.Message, extra ...impl.RR) impl.Message {
	m.Extra = append(slices.Clone(m.Extra), extra...)
	return m
}

// saying is a reply that has records, and AA.
func saying(m impl.Message, answer, authority, extra []impl.RR) impl.Message {
	m.Head.AA, m.Answer, m.Authority, m.Extra = true, answer, authority, extra
	return m
}

// oneReply is a reply of one message.
func oneReply(number int64, m impl.Message) impl.Reply {
	return impl.Reply{Case: number, Messages: [][]byte{[]byte(layMessage(m, false))}}
}

// docZone is the zone of the document's examples.
func docZone(t *testing.T) impl.Zone {
	t.Helper()
	return zoneText(t, exampleZone)
}

// bulkyZone makes a zone whose sets do not fit into one datagram: servers of many addresses, and long texts.
func bulkyZone(t *testing.T, r *rand.Rand, apex string) impl.Zone {
	t.Helper()
	list := begun(apex)
	for n := range 3 + r.Intn(9) {
		host := st("a"+itoa(n)) + apex
		list = append(list, rrOf(apex, impl.TypeNS, host), rrOf(apex, impl.TypeMX, be(int64(n), 2)+host))
		for k := range 1 + r.Intn(12) {
			list = append(list, rrOf(host, impl.TypeA, be(int64(k), 4)), rrOf(host, impl.TypeAAAA, be(int64(k), 16)))
		}
		for k := range r.Intn(3) {
			list = append(list, rrOf(host, impl.TypeTXT, st(itoa(k)+strings.Repeat("t", r.Intn(250)))))
			list = append(list, rrOf(st("s")+apex, impl.TypeNS, host))
		}
	}
	return mustBuild(t, list, apex)
}

// someServer makes a valid server: its zone often has proofs, a history, and keys.
func someServer(t *testing.T, r *rand.Rand, apex string) impl.Server {
	t.Helper()
	var s impl.Server
	switch r.Intn(4) {
	case 0:
		zones, history := historyOf(t, r, apex, r.Intn(4), 3)
		s = impl.Server{Zone: zones[len(zones)-1], History: history}
	case 1:
		s.Zone = lookZone(t, r, apex, 12)
	case 2:
		s.Zone = denyZone(t, r, apex, 10)
		if r.Intn(2) == 0 {
			s.Zone = chained(t, s.Zone)
		}
	case 3:
		s.Zone = bulkyZone(t, r, apex)
	}
	if r.Intn(2) == 0 {
		s.Keys = append(someKeys(r, 7), someKey(r))
	}
	return s
}

// someOpt makes a record of TypeOPT that is mostly right.
func someOpt(r *rand.Rand) impl.RR {
	size := []int64{0, 1, 511, 512, 513, 600, 1232, 4095, 4096, 4097, 65535}[r.Intn(11)]
	rr := optOf(size, []int64{0, 32768, 32768, 1, 65535, 16777216, 4278190080 + 32768}[r.Intn(7)])
	for range r.Intn(3) {
		rr.Data += optionOf(int64(r.Intn(65536)), string(someBytes(r, r.Intn(4))))
	}
	switch r.Intn(30) {
	case 0, 1:
		rr.TTL += 65536 * int64(1+r.Intn(255))
	case 2:
		rr.Data += "x"
	case 3:
		rr.Owner = nm("a")
	}
	return rr
}

// askedOf makes a message for a server: a query, a change, or one that asks for the zone.
func askedOf(t *testing.T, r *rand.Rand, s impl.Server) impl.Message {
	t.Helper()
	m := asking(deniedIn(r, s.Zone), lookTypes()[r.Intn(len(lookTypes()))], 1)
	m.Head.ID, m.Head.RD = int64(r.Intn(65536)), r.Intn(2) == 0
	switch r.Intn(8) {
	case 0, 1:
		head := m.Head
		m = updateMessage(s.Zone.Apex, conditionsIn(r, s.Zone, 1), changesIn(r, s.Zone, 4))
		m.Head.ID, m.Head.RD = head.ID, head.RD
	case 2:
		m.Questions[0] = []impl.Question{askAll(s.Zone.Apex), askSome(s.Zone.Apex)}[r.Intn(2)]
		serial := serialOf(s.Zone)
		if len(s.History) > 0 && r.Intn(3) > 0 {
			serial, _ = serialIn(s.History[r.Intn(len(s.History))].Old)
		}
		m.Authority = []impl.RR{soaOf(s.Zone.Apex, serial)}
	case 3:
		q := &m.Questions[0]
		switch r.Intn(5) {
		case 0:
			q.Class = int64(r.Intn(256))
		case 1:
			q.Type = metaTypes()[r.Intn(9)]
		case 2:
			m.Head.Op = int64(r.Intn(16))
		case 3:
			q.Name = capital(s.Zone.Apex)
		case 4:
			m.Authority = append(m.Authority, recordIn(r, s.Zone.Apex))
		}
	}
	return m
}

// sentTo makes the bytes of a message for a server: perhaps with a record of TypeOPT, perhaps signed, perhaps ill.
func sentTo(t *testing.T, r *rand.Rand, s impl.Server, now int64) string {
	t.Helper()
	m := askedOf(t, r, s)
	for r.Intn(8) < 5 {
		m.Extra = append(m.Extra, someOpt(r))
		if r.Intn(20) > 0 {
			break
		}
	}
	b := layMessage(m, false)
	if len(s.Keys) > 0 && r.Intn(3) > 0 {
		k := s.Keys[r.Intn(len(s.Keys))]
		at := now
		switch r.Intn(8) {
		case 0:
			k.Secret += "x"
			k.Secret = k.Secret[max(0, len(k.Secret)-64):]
		case 1:
			k.Name = nm("other")
		case 2:
			at = max(0, min(lastTime, now+[]int64{-301, -300, 300, 301}[r.Intn(4)]))
		}
		b = signedBy(b, k, at, "")
	}
	if r.Intn(6) == 0 {
		b = string(bent(r, []byte(b)))
	}
	return b
}
