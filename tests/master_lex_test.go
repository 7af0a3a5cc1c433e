package tests

import (
	"strings"
	"testing"

	"loop.example/s01858/impl"
)

// Blanks lie between words, any number of them, of every kind.
func TestLexBlanks(t *testing.T) {
	checkLex(t, "")
	checkLex(t, "a", ln(1, false, "a"))
	checkLex(t, "abc d ef", ln(1, false, "abc", "d", "ef"))
	for _, blank := range []string{" ", "\t", "\r", "  ", " \t\r", "\r\r\t"} {
		checkLex(t, blank)
		checkLex(t, blank+"\n"+blank+"\n"+blank)
		checkLex(t, "a"+blank+"b", ln(1, false, "a", "b"))
		checkLex(t, "a"+blank+"b"+blank+"\n", ln(1, false, "a", "b"))
		checkLex(t, blank+"a"+blank+"b", ln(1, true, "a", "b"))
		checkLex(t, "a\n"+blank+"b", ln(1, false, "a"), ln(2, true, "b"))
		checkLex(t, "\""+blank+"\"", ln(1, false, "\""+blank))
		checkLex(t, "(a"+blank+"\n"+blank+"b)", ln(1, false, "a", "b"))
	}
	for _, c := range []string{"\x00", "\x0b", "\x0c", "\x1f", "\x7f", "\x85", "\xa0", "\xc2\xa0", "\xe2\x80\xa8"} {
		checkLex(t, c+"a"+c+"b\n", ln(1, false, c+"a"+c+"b"))
	}
}

// A line is Blank by its first byte alone, and has the number of the line in which it begins.
func TestLexLines(t *testing.T) {
	checkLex(t, "a\nb\nc\n", ln(1, false, "a"), ln(2, false, "b"), ln(3, false, "c"))
	checkLex(t, "\n\na\n\n b\n\n", ln(3, false, "a"), ln(5, true, "b"))
	checkLex(t, "a\r\n b\r\n", ln(1, false, "a"), ln(2, true, "b"))
	checkLex(t, "\ra\n\tb\n c\nd ", ln(1, true, "a"), ln(2, true, "b"), ln(3, true, "c"), ln(4, false, "d"))
	checkLex(t, ";x\n a\n ;y\nb", ln(2, true, "a"), ln(4, false, "b"))
	checkLex(t, "\\ a\n \\ b\n", ln(1, false, "\\ a"), ln(2, true, "\\ b"))
	checkLex(t, "\" a\"\n \"b\"\n", ln(1, false, "\" a"), ln(2, true, "\"b"))
	checkLex(t, "( a)\n (b)\n(\n c)\n (\nd)\ne", ln(1, false, "a"), ln(2, true, "b"), ln(3, false, "c"), ln(5, true, "d"), ln(7, false, "e"))
	checkLex(t, "a (\n\n\n) b\nc", ln(1, false, "a", "b"), ln(5, false, "c"))
	checkLex(t, "(\n\n)\n a", ln(4, true, "a"))
	checkLex(t, "( ;x\n;y\n a ;z\n)\n b", ln(1, false, "a"), ln(5, true, "b"))
	checkLex(t, "a(\n) (\n)b\nc", ln(1, false, "a", "b"), ln(4, false, "c"))
}

func TestLexComments(t *testing.T) {
	checkLex(t, ";")
	checkLex(t, "; a b\n")
	checkLex(t, "a;b c\nd", ln(1, false, "a"), ln(2, false, "d"))
	checkLex(t, "a ; b ; c\n d", ln(1, false, "a"), ln(2, true, "d"))
	checkLex(t, "\"a\";b\nc", ln(1, false, "\"a"), ln(2, false, "c"))
	checkLex(t, "\"a\" ;b\"\nc", ln(1, false, "\"a"), ln(2, false, "c"))
	checkLex(t, "a ;( ) \" \\\nb", ln(1, false, "a"), ln(2, false, "b"))
	checkLex(t, "a ;)\n;(\n;\"\n;\\\nb", ln(1, false, "a"), ln(5, false, "b"))
	checkLex(t, "a ( b ; c ) d\n e;f\n) g ;h", ln(1, false, "a", "b", "e", "g"))
	checkLex(t, "a ;b\r c\nd", ln(1, false, "a"), ln(2, false, "d"))
	checkLex(t, "a\\;b\n\";\"c", ln(1, false, "a\\;b"), ln(2, false, "\";", "c"))
}

func TestLexParentheses(t *testing.T) {
	checkLex(t, "()")
	checkLex(t, "()()(\n)\n")
	checkLex(t, "(a)", ln(1, false, "a"))
	checkLex(t, "a(b)c", ln(1, false, "a", "b", "c"))
	checkLex(t, "a()b", ln(1, false, "a", "b"))
	checkLex(t, "a (b\n c\n\td) (e\nf) g\nh", ln(1, false, "a", "b", "c", "d", "e", "f", "g"), ln(5, false, "h"))
	checkLex(t, "(\"a\"\n\"b\")\"c\"", ln(1, false, "\"a", "\"b", "\"c"))
	checkLex(t, "a\\(b\\)c", ln(1, false, "a\\(b\\)c"))
	checkLex(t, "\"(\" \")\"", ln(1, false, "\"(", "\")"))
	checkLex(t, "(a\nb\n)", ln(1, false, "a", "b"))
	checkLex(t, "(a\nb)\nc(\n\nd)\ne", ln(1, false, "a", "b"), ln(3, false, "c", "d"), ln(6, false, "e"))
}

func TestLexQuotes(t *testing.T) {
	checkLex(t, "\"\"", ln(1, false, "\""))
	checkLex(t, "\"\"\"\"", ln(1, false, "\"", "\""))
	checkLex(t, "\"a b\"", ln(1, false, "\"a b"))
	checkLex(t, "\"\"\n \"\" \n", ln(1, false, "\""), ln(2, true, "\""))
	checkLex(t, "a\"b\"c", ln(1, false, "a", "\"b", "c"))
	checkLex(t, "\"a\"\"b\"", ln(1, false, "\"a", "\"b"))
	checkLex(t, "a\"\"b\"\"", ln(1, false, "a", "\"", "b", "\""))
	checkLex(t, "\" ;()\t\r$@\" x", ln(1, false, "\" ;()\t\r$@", "x"))
	checkLex(t, "\"a\\\"b\"", ln(1, false, "\"a\\\"b"))
	checkLex(t, "\"a\\\\\"b", ln(1, false, "\"a\\\\", "b"))
	checkLex(t, "\"\\\\\\\"\" b", ln(1, false, "\"\\\\\\\"", "b"))
	checkLex(t, "a\\\"b \"c\"", ln(1, false, "a\\\"b", "\"c"))
	checkLex(t, "(\"\"\n\"\")", ln(1, false, "\"", "\""))
}

// A backslash takes one byte along, and both stay.
func TestLexEscapes(t *testing.T) {
	checkLex(t, "\\a", ln(1, false, "\\a"))
	checkLex(t, "a\\ b", ln(1, false, "a\\ b"))
	checkLex(t, "a\\\\ b", ln(1, false, "a\\\\", "b"))
	checkLex(t, "a\\\\\\ b", ln(1, false, "a\\\\\\ b"))
	checkLex(t, "\\\t\\\r\\;", ln(1, false, "\\\t\\\r\\;"))
	checkLex(t, "\\065\\6\\999", ln(1, false, "\\065\\6\\999"))
	checkLex(t, "\\\"", ln(1, false, "\\\""))
	checkLex(t, "\\\\\"a\"", ln(1, false, "\\\\", "\"a"))
	checkLex(t, "\\\\;c", ln(1, false, "\\\\"))
	checkLex(t, "\\# 1 ab", ln(1, false, "\\#", "1", "ab"))
	checkLex(t, "\"\\ \\;\\(\\065\\6\"", ln(1, false, "\"\\ \\;\\(\\065\\6"))
	checkLex(t, "$ @ \\$ \\@", ln(1, false, "$", "@", "\\$", "\\@"))
}

// Every byte, in each place where a byte may stand.
func TestLexEveryByte(t *testing.T) {
	for n := range 256 {
		c := string([]byte{byte(n)})
		switch {
		case strings.Contains(" \t\r", c):
			checkLex(t, c+"a"+c+"b", ln(1, true, "a", "b"))
		case c == "\n":
			checkLex(t, c+"a"+c+"b", ln(2, false, "a"), ln(3, false, "b"))
		case c == ";":
			checkLex(t, c+"a"+c+"b")
			checkLex(t, "a"+c+"b", ln(1, false, "a"))
		case c == "(":
			checkLexFault(t, c+"a"+c+"b", impl.ErrParen, 1)
		case c == ")":
			checkLexFault(t, "a"+c+"b", impl.ErrParen, 1)
		case c == "\"":
			checkLex(t, c+"a"+c+"b", ln(1, false, "\"a", "b"))
			checkLexFault(t, "a"+c+"b", impl.ErrQuote, 1)
		default:
			checkLex(t, c+"a"+c+"b", ln(1, false, c+"a"+c+"b"))
		}
		checkLex(t, "a;"+c+"\nb", lexLinesBehind(c)...)
		if c == "\n" {
			for _, text := range []string{"\\" + c, "a\\" + c + "b", "\"\\" + c + "\"", "(\\" + c + ")"} {
				checkLexFault(t, text, impl.ErrEscape, 1)
			}
			checkLexFault(t, "\"a"+c+"b\"", impl.ErrQuote, 1)
			continue
		}
		checkLex(t, "\\"+c+" b", ln(1, false, "\\"+c, "b"))
		checkLex(t, "a\\"+c+"b", ln(1, false, "a\\"+c+"b"))
		checkLex(t, "(\\"+c+")\"\\"+c+"\"b", ln(1, false, "\\"+c, "\"\\"+c, "b"))
		if c != "\"" && c != "\\" {
			checkLex(t, "\""+c+"\" b", ln(1, false, "\""+c, "b"))
		}
	}
}

// lexLinesBehind is the lines a and b with a comment of one byte between them.
func lexLinesBehind(c string) []impl.Line {
	if c == "\n" {
		return []impl.Line{ln(1, false, "a"), ln(3, false, "b")}
	}
	return []impl.Line{ln(1, false, "a"), ln(2, false, "b")}
}

// A text may end anywhere; a last newline is not needed.
func TestLexEnds(t *testing.T) {
	for _, end := range []string{"", "\n", "\n\n", " ", " \n", ";", ";c", ";c\n", " ;", "\r\n", "()", "(\n)"} {
		checkLex(t, "a\nb c"+end, ln(1, false, "a"), ln(2, false, "b", "c"))
		checkLex(t, "a\nb \"c\""+end, ln(1, false, "a"), ln(2, false, "b", "\"c"))
		checkLex(t, "a\n b (\nc)"+end, ln(1, false, "a"), ln(2, true, "b", "c"))
		checkLex(t, "a\\\\"+end, ln(1, false, "a\\\\"))
	}
	for _, c := range []textFault{
		{"a\nb \"", impl.ErrQuote, 2},
		{"a\nb \"c", impl.ErrQuote, 2},
		{"a\nb \"c\\\"", impl.ErrQuote, 2},
		{"a\nb \"c\n", impl.ErrQuote, 2},
		{"a\nb (", impl.ErrParen, 2},
		{"a\nb (\n\n", impl.ErrParen, 2},
		{"a\nb (c", impl.ErrParen, 2},
		{"a\nb (c ;d", impl.ErrParen, 2},
		{"a\nb (c ;)\n", impl.ErrParen, 2},
		{"a\nb (\n\"c\"", impl.ErrParen, 2},
		{"a\nb (\nc) (\nd\ne", impl.ErrParen, 3},
		{"a\nb \\", impl.ErrEscape, 2},
		{"a\nb c\\", impl.ErrEscape, 2},
		{"a\nb \"c\\", impl.ErrEscape, 2},
		{"a\nb \"c\\\\", impl.ErrQuote, 2},
		{"a\nb (\n\\", impl.ErrEscape, 3},
		{"a\nb \\\\\\", impl.ErrEscape, 2},
	} {
		checkLexFault(t, c.text, c.code, c.at)
	}
}

// P8: each fault that Lex tells, and its line.
func TestP8LexFaults(t *testing.T) {
	for _, c := range []textFault{
		{"((", impl.ErrParen, 1},
		{"(a (b) c)", impl.ErrParen, 1},
		{"(\n\n(", impl.ErrParen, 3},
		{"\n(\n ; x\n a(\n))", impl.ErrParen, 4},
		{")", impl.ErrParen, 1},
		{"\n\n a)", impl.ErrParen, 3},
		{"(\n))", impl.ErrParen, 2},
		{"(\n)\n)", impl.ErrParen, 3},
		{"(\n", impl.ErrParen, 1},
		{"\n\"", impl.ErrQuote, 2},
		{"(\n\n\"\n)", impl.ErrQuote, 3},
		{"\n(\n\"a\" \"b\n", impl.ErrQuote, 3},
		{"a\"\n\"", impl.ErrQuote, 1},
		{"\n\na\\\nb", impl.ErrEscape, 3},
		{"(\n\"\\\n", impl.ErrEscape, 2},
		{"(\n\na\\\n", impl.ErrEscape, 3},
		{"a\r\\\n", impl.ErrEscape, 1},
	} {
		checkLexFault(t, c.text, c.code, c.at)
	}
	checkLex(t, "a\\\r\n", ln(1, false, "a\\\r"))
}

// P8: of several faults the first from the left is told, whatever line it is told at.
func TestP8LexFirstFault(t *testing.T) {
	for _, c := range []textFault{
		{"\"a\n)", impl.ErrQuote, 1},
		{")\n\"a\n", impl.ErrParen, 1},
		{"\\\n)", impl.ErrEscape, 1},
		{")\\\n", impl.ErrParen, 1},
		{"\"\\\n", impl.ErrEscape, 1},
		{"\"a\n\\\n", impl.ErrQuote, 1},
		{"(\n\n\"x", impl.ErrQuote, 3},
		{"(\n\n\\", impl.ErrEscape, 3},
		{"(\n\n(", impl.ErrParen, 3},
		{"(\n) (\n\n)\n)", impl.ErrParen, 5},
		{"a\n(b\n\nc", impl.ErrParen, 2},
		{"\"\" )\n(", impl.ErrParen, 1},
		{";)\n;\"\n(;)\n", impl.ErrParen, 3},
	} {
		checkLexFault(t, c.text, c.code, c.at)
	}
}

// A line may have as many words as MaxWords; one more is told when it has ended, at its own number.
func TestLexMaxWords(t *testing.T) {
	full, more := times(300, "x"), times(301, "x")
	empty := strings.Repeat("\"\"", 300)
	checkLex(t, strings.Join(full, " "), ln(1, false, full...))
	checkLex(t, "a\n\n "+strings.Join(full, "\t")+" ;x x\nb\n", ln(1, false, "a"), ln(3, true, full...), ln(4, false, "b"))
	checkLex(t, "(\n"+strings.Join(full, "\n")+"\n)\n"+strings.Join(full, " "), ln(1, false, full...), ln(303, false, full...))
	checkLex(t, empty, ln(1, false, times(300, "\"")...))
	checkLexFault(t, strings.Join(more, " "), impl.ErrWord, 1)
	checkLexFault(t, strings.Join(times(20000, "x"), " "), impl.ErrWord, 1)
	checkLexFault(t, empty+"x", impl.ErrWord, 1)
	checkLexFault(t, empty+"\"\"", impl.ErrWord, 1)
	many := strings.Join(more, " ")
	for _, c := range []textFault{
		{many + "\n", impl.ErrWord, 1},
		{"a\n\n" + many + "\nb\n", impl.ErrWord, 3},
		{"a\n(\n" + strings.Join(more, "\n") + "\n)\n", impl.ErrWord, 2},
		{"a\n" + many + " (\n\n) ;c\n", impl.ErrWord, 2},
		{many + "\n" + many + "\n", impl.ErrWord, 1},
		{many + "\n)", impl.ErrWord, 1},
		{many + "\n\\\n", impl.ErrWord, 1},
		{many + "\n\"", impl.ErrWord, 1},
		{"\n" + many + "\n(", impl.ErrWord, 2},
		{many + ")\n", impl.ErrParen, 1},
		{many + " (\n\n(", impl.ErrParen, 3},
		{"\n" + many + " (\n\n", impl.ErrParen, 2},
		{"\n" + many + " (\n\n\"", impl.ErrQuote, 4},
		{many + "\"\n", impl.ErrQuote, 1},
		{many + "\\\n", impl.ErrEscape, 1},
		{"\n)\n" + many, impl.ErrParen, 2},
	} {
		checkLexFault(t, c.text, c.code, c.at)
	}
}

// A text may have as many bytes as MaxFile.
func TestLexMaxFile(t *testing.T) {
	checkLex(t, strings.Repeat(" ", 40000))
	checkLex(t, strings.Repeat("a", 40000), ln(1, false, strings.Repeat("a", 40000)))
	checkLex(t, strings.Repeat("\n", 39999)+"a", ln(40000, false, "a"))
	checkLex(t, ";"+strings.Repeat("\"", 39999))
	lines, code, at := impl.Lex(strings.Repeat("x\n", 20000))
	if len(lines) != 20000 || code != impl.OK || at != 0 || !sameLine(lines[19999], ln(20000, false, "x")) {
		t.Errorf("Lex of 20000 lines = %d lines, %d at %d", len(lines), code, at)
	}
	for _, text := range []string{strings.Repeat(" ", 40001), strings.Repeat("a", 40001), strings.Repeat("\n", 40001), strings.Repeat(")", 40001), strings.Repeat("a ", 20000) + "\\", strings.Repeat("\"", 1000000)} {
		checkLexFault(t, text, impl.ErrSize, 0)
	}
	checkLexFault(t, strings.Repeat("\n", 39999)+")", impl.ErrParen, 40000)
	checkLexFault(t, strings.Repeat("\n", 39999)+"\\", impl.ErrEscape, 40000)
	checkLexFault(t, "("+strings.Repeat("\n", 39999), impl.ErrParen, 1)
}
