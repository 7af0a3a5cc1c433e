package tests

import (
	"fmt"
	"math/rand"
	"regexp"
	"slices"
	"strings"
	"testing"

	"loop.example/s01858/impl"
)

// ln is a line with its words; one that begins with a quote stood in quotes.
func ln(number int64, blank bool, texts ...string) impl.Line {
	return impl.Line{Number: number, Blank: blank, Words: ws(texts...)}
}

func sameLine(a, b impl.Line) bool {
	return a.Number == b.Number && a.Blank == b.Blank && slices.Equal(a.Words, b.Words)
}

func sameLines(a, b []impl.Line) bool { return slices.EqualFunc(a, b, sameLine) }

// tellLines writes lines for a message of a test, not all of them if they are many.
func tellLines(list []impl.Line) string {
	out := itoa(len(list)) + " lines"
	for _, line := range list[:min(len(list), 5)] {
		out += "; " + itoa(int(line.Number)) + ": "
		if line.Blank {
			out += "blank, "
		}
		out += tellWords(line.Words)
	}
	return out
}

// tellRecords writes records for a message of a test, not all of them if they are many.
func tellRecords(list []impl.RR) string {
	out := itoa(len(list)) + " records"
	for _, rr := range list[:min(len(list), 5)] {
		data := rr.Data[:min(len(rr.Data), 80)]
		out += fmt.Sprintf("; %q %d %d %d %q", rr.Owner, rr.Type, rr.Class, rr.TTL, data)
	}
	return out
}

// checkLex holds the lines of a text that has no fault against those that it should have.
func checkLex(t *testing.T, text string, want ...impl.Line) {
	t.Helper()
	got, code, at := impl.Lex(text)
	if code != impl.OK || at != 0 || !sameLines(got, want) {
		t.Errorf("Lex(%.300q) = %s, %d at %d, want %s", text, tellLines(got), code, at, tellLines(want))
	}
}

// checkLexFault holds a text's fault against the one that should be told.
func checkLexFault(t *testing.T, text string, code, at int64) {
	t.Helper()
	got, gotCode, gotAt := impl.Lex(text)
	if gotCode != code || gotAt != at || len(got) > 0 {
		t.Errorf("Lex(%.300q) = %s, %d at %d, want %d at %d", text, tellLines(got), gotCode, gotAt, code, at)
	}
}

// checkMaster holds the records of a text that has no fault against those that it should have.
func checkMaster(t *testing.T, text, origin string, want ...impl.RR) {
	t.Helper()
	got, code, at := impl.ReadMaster(text, origin)
	if code != impl.OK || at != 0 || !slices.Equal(got, want) {
		t.Errorf("ReadMaster(%.300q, %.20q) = %s, %d at %d, want %s", text, origin, tellRecords(got), code, at, tellRecords(want))
	}
}

// checkMasterFault holds a text's fault against the one that should be told.
func checkMasterFault(t *testing.T, text, origin string, code, at int64) {
	t.Helper()
	got, gotCode, gotAt := impl.ReadMaster(text, origin)
	if gotCode != code || gotAt != at || len(got) > 0 {
		t.Errorf("ReadMaster(%.300q, %.20q) = %s, %d at %d, want %d at %d", text, origin, tellRecords(got), gotCode, gotAt, code, at)
	}
}

// textFault is a text, and the fault that it should have.
type textFault struct {
	text     string
	code, at int64
}

// pieceOf finds the next piece of a text: blanks, a newline, a comment, a parenthesis, a quoted word, another word.
var pieceOf = regexp.MustCompile(`^(?:[ \t\r]+|\n|;[^\n]*|[()]|"(?:[^"\\\n]|\\[^\n])*"|(?:[^ \t\r\n;()"\\]|\\[^\n])+)`)

// openQuote finds as much of a quoted word as there is.
var openQuote = regexp.MustCompile(`^"(?:[^"\\\n]|\\[^\n])*`)

// lexOf says chapter 6 once more, by expressions for its pieces.
func lexOf(text string) ([]impl.Line, int64, int64) {
	if len(text) > 40000 {
		return nil, impl.ErrSize, 0
	}
	var out []impl.Line
	now, open, number := impl.Line{Number: 1}, int64(0), int64(1)
	now.Blank = regexp.MustCompile(`^[ \t\r]`).MatchString(text)
	for rest := text; ; {
		found := pieceOf.FindString(rest)
		rest = rest[len(found):]
		switch {
		case found == "" && strings.HasPrefix(rest, "\\"), found == "" && strings.HasPrefix(openQuote.ReplaceAllString(rest, ""), "\\"):
			return nil, impl.ErrEscape, number
		case found == "" && rest != "":
			return nil, impl.ErrQuote, number
		case found == "(" && open > 0, found == ")" && open == 0:
			return nil, impl.ErrParen, number
		case found == "" && open > 0:
			return nil, impl.ErrParen, open
		case found == "(":
			open = number
		case found == ")":
			open = 0
		case found == "\n" && open > 0:
			number++
		case found == "\n" || found == "":
			if len(now.Words) > 300 {
				return nil, impl.ErrWord, now.Number
			}
			if len(now.Words) > 0 {
				out = append(out, now)
			}
			if found == "" {
				return out, impl.OK, 0
			}
			number++
			now = impl.Line{Number: number, Blank: rest != "" && strings.Contains(" \t\r", rest[:1])}
		case found[0] == '"':
			now.Words = append(now.Words, impl.Word{Text: found[1 : len(found)-1], Quoted: true})
		case !strings.Contains(" \t\r;", found[:1]):
			now.Words = append(now.Words, impl.Word{Text: found})
		}
	}
}

// The letters are told one by one, since an expression that folds them takes some of other scripts for them.
var (
	timeWordOf  = regexp.MustCompile(`^[0-9]+([smhdwSMHDW]([0-9]+[smhdwSMHDW])*)?$`)
	classWordOf = regexp.MustCompile(`^([iI][nN]|[cC][sS]|[cC][hH]|[hH][sS]|[cC][lL][aA][sS][sS][0-9]{1,5})$`)
	classINOf   = regexp.MustCompile(`^([iI][nN]|[cC][lL][aA][sS][sS]0{0,4}1)$`)
	originOf    = regexp.MustCompile(`^\$[oO][rR][iI][gG][iI][nN]$`)
	ttlOf       = regexp.MustCompile(`^\$[tT][tT][lL]$`)
)

// kindsOf tells words by a letter each: q in quotes, t a time, c a class, o any other.
func kindsOf(words []impl.Word) string {
	out := ""
	for _, word := range words {
		_, code := impl.ReadTTL(word.Text)
		switch {
		case word.Quoted:
			out += "q"
		case timeWordOf.MatchString(word.Text) && code == impl.OK:
			out += "t"
		case classWordOf.MatchString(word.Text):
			out += "c"
		default:
			out += "o"
		}
	}
	return out
}

// master says chapter 7 once more: what is kept from line to line.
type master struct {
	origin, owner string
	usual, given  []int64
	list          []impl.RR
}

// directive reads a directive's line.
func (m *master) directive(words []impl.Word) (code int64) {
	isOrigin, isTTL := originOf.MatchString(words[0].Text), ttlOf.MatchString(words[0].Text)
	if !isOrigin && !isTTL {
		return impl.ErrDirective
	}
	if kinds := kindsOf(words); len(kinds) != 2 || kinds[1] == 'q' {
		return impl.ErrWord
	}
	if isOrigin {
		m.origin, code = impl.ReadName(words[1].Text, m.origin)
		return code
	}
	ttl, code := impl.ReadTTL(words[1].Text)
	m.usual = append(m.usual, ttl)
	return code
}

// record reads a record's words, those behind its owner.
func (m *master) record(words []impl.Word) int64 {
	kinds := kindsOf(words)
	ahead := len(kinds) - len(strings.TrimLeft(kinds, "tc"))
	if strings.Count(kinds[:ahead], "t") > 1 || strings.Count(kinds[:ahead], "c") > 1 {
		return impl.ErrWord
	}
	if ahead == len(kinds) || kinds[ahead] == 'q' {
		return impl.ErrWord
	}
	rtype, code := impl.ReadType(words[ahead].Text)
	if code != impl.OK || rtype == 0 || rtype == 41 || rtype >= 249 && rtype <= 255 {
		return impl.ErrType
	}
	if c := strings.IndexByte(kinds[:ahead], 'c'); c >= 0 && !classINOf.MatchString(words[c].Text) {
		return impl.ErrClass
	}
	times := append(slices.Clone(m.given), m.usual...)
	if k := strings.IndexByte(kinds[:ahead], 't'); k >= 0 {
		ttl, _ := impl.ReadTTL(words[k].Text)
		m.given, times = append(m.given, ttl), append(times, ttl)
	}
	if len(times) == 0 {
		return impl.ErrTTL
	}
	data, code := impl.ReadData(rtype, words[ahead+1:], m.origin)
	if code == impl.OK && len(m.list) >= 500 {
		code = impl.ErrCount
	}
	m.list = append(m.list, impl.RR{Owner: m.owner, Type: rtype, Class: 1, TTL: times[len(times)-1], Data: data})
	return code
}

// line reads a line.
func (m *master) line(line impl.Line) (code int64) {
	first := line.Words[0]
	switch {
	case line.Blank && m.owner == "":
		return impl.ErrOwner
	case line.Blank:
		return m.record(line.Words)
	case first.Quoted:
		return impl.ErrWord
	case strings.HasPrefix(first.Text, "$"):
		return m.directive(line.Words)
	}
	if m.owner, code = impl.ReadName(first.Text, m.origin); code != impl.OK {
		return code
	}
	return m.record(line.Words[1:])
}

// masterOf says chapter 7 on ReadMaster once more.
func masterOf(text, origin string) ([]impl.RR, int64, int64) {
	if origin != "" && !isName(origin) {
		return nil, impl.ErrForm, 0
	}
	lines, code, at := lexOf(text)
	if code != impl.OK {
		return nil, code, at
	}
	m := master{origin: origin}
	for _, line := range lines {
		if code := m.line(line); code != impl.OK {
			return nil, code, line.Number
		}
	}
	return m.list, impl.OK, 0
}

// isMasterList says chapter 7 on what ShowMaster writes once more, but for how many there are.
func isMasterList(list []impl.RR) bool {
	for _, rr := range list {
		meta := rr.Type == 0 || rr.Type == 41 || rr.Type >= 249 && rr.Type <= 255
		if !isName(rr.Owner) || rr.Class != 1 || rr.TTL < 0 || rr.TTL > 2147483647 || meta || impl.CheckData(rr.Type, rr.Data) != impl.OK {
			return false
		}
	}
	return true
}

// zoneTypes are types of which a zone may have records.
func zoneTypes() []int64 {
	out := formTypes()
	for _, rtype := range freeTypes() {
		if rtype != 0 && rtype != 41 && (rtype < 249 || rtype > 255) {
			out = append(out, rtype)
		}
	}
	return out
}

// metaTypes are types of which it may have none.
func metaTypes() []int64 { return []int64{0, 41, 249, 250, 251, 252, 253, 254, 255} }

// zoneRecord makes a record that may stand in a zone's text.
func zoneRecord(r *rand.Rand) impl.RR {
	types := zoneTypes()
	rtype := types[r.Intn(len(types))]
	owner := someName(r, 4)
	if r.Intn(4) == 0 {
		owner = anyName(r)
	}
	return impl.RR{Owner: owner, Type: rtype, Class: 1, TTL: r.Int63() >> (32 + r.Intn(32)), Data: someDataOf(r, rtype)}
}
