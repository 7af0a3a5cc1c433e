package impl

import (
	"cmp"
	"strings"
)

// Codes, see chapter 1.
const (
	OK           = 0
	ErrName      = 1
	ErrLabel     = 2
	ErrLong      = 3
	ErrEscape    = 4
	ErrRelative  = 5
	ErrType      = 6
	ErrData      = 7
	ErrShort     = 8
	ErrPointer   = 9
	ErrTrail     = 10
	ErrSize      = 11
	ErrCount     = 12
	ErrQuote     = 13
	ErrParen     = 14
	ErrWord      = 15
	ErrDirective = 16
	ErrOwner     = 17
	ErrTTL       = 18
	ErrClass     = 19
	ErrSOA       = 20
	ErrNS        = 21
	ErrZone      = 22
	ErrSingle    = 23
	ErrMixed     = 24
	ErrBelow     = 25
	ErrWild      = 26
	ErrSerial    = 27
	ErrDisk      = 28
	ErrKey       = 29
	ErrSum       = 30
	ErrTime      = 31
	ErrForm      = 32
)

// Limits, see chapter 1.
const (
	MaxLabel    = 63
	MaxName     = 255
	MaxNameText = 1100
)

// root is the name without labels.
const root = "\x00"

// maxLabels is how many labels fit into MaxName bytes, each of one byte.
const maxLabels = (MaxName - 1) / 2

// labelList is the labels of a name, from the left.
type labelList []string

// nameSize tells how many bytes the name at the front of data has; false if none stands there.
func nameSize(data string) (int, bool) {
	at := 0
	for at < len(data) {
		size := int(data[at])
		if size == 0 {
			return at + 1, true
		}
		at += 1 + size
		if !labelFits(size) || at >= MaxName {
			return 0, false
		}
	}
	return 0, false
}

// splitName cuts a name into labels, which share its memory; false if it is no name.
func splitName(name string) (labelList, bool) {
	if !NameOK(name) {
		return nil, false
	}
	var list labelList
	for rest := name; rest != root; {
		size := int(rest[0])
		list = append(list, rest[1:1+size])
		rest = rest[1+size:]
	}
	return list, true
}

// wireSize tells how many bytes the name of the labels has.
func (list labelList) wireSize() int {
	size := len(root)
	for _, label := range list {
		size += 1 + len(label)
	}
	return size
}

// wire lays the labels, each of which must fit, into a name; ErrLong if that is too long.
func (list labelList) wire() (string, int64) {
	size := list.wireSize()
	if size > MaxName {
		return "", ErrLong
	}
	out := make([]byte, 0, size)
	for _, label := range list {
		out = append(out, byte(len(label)))
		out = append(out, label...)
	}
	return string(append(out, root...)), OK
}

// compare orders lists of labels from their last ones on.
func (list labelList) compare(other labelList) int {
	for n := 1; n <= len(list) && n <= len(other); n++ {
		if c := compareFolded(list[len(list)-n], other[len(other)-n]); c != 0 {
			return c
		}
	}
	return cmp.Compare(len(list), len(other))
}

// under tells whether the list ends with the labels of above.
func (list labelList) under(above labelList) bool {
	ahead := len(list) - len(above)
	return ahead >= 0 && list[ahead:].compare(above) == 0
}

// join is a new list: these labels and, behind them, those of tail.
func (list labelList) join(tail labelList) labelList {
	out := make(labelList, 0, len(list)+len(tail))
	out = append(out, list...)
	return append(out, tail...)
}

// foldByte is the small letter of a capital one, and any other byte as it is.
func foldByte(c byte) byte {
	if c >= 'A' && c <= 'Z' {
		return c + ('a' - 'A')
	}
	return c
}

// foldText folds byte by byte: bytes above 127 are no letters here, whatever they may be elsewhere.
func foldText(s string) string {
	out := []byte(s)
	for i, c := range out {
		out[i] = foldByte(c)
	}
	return string(out)
}

// compareFolded orders texts by their folded bytes, the shorter of two that begin alike first.
func compareFolded(a, b string) int {
	for i := 0; i < len(a) && i < len(b); i++ {
		if c := cmp.Compare(foldByte(a[i]), foldByte(b[i])); c != 0 {
			return c
		}
	}
	return cmp.Compare(len(a), len(b))
}

// labelFits tells whether a label may have that many bytes.
func labelFits(size int) bool { return size > 0 && size <= MaxLabel }

// NameOK tells whether it is a name, see chapter 2.
func NameOK(name string) bool {
	size, ok := nameSize(name)
	return ok && size == len(name)
}

// Labels tells a name's labels, see chapter 2.
func Labels(name string) []string {
	list, ok := splitName(name)
	if !ok {
		return nil
	}
	out := make([]string, 0, len(list))
	for _, label := range list {
		out = append(out, strings.Clone(label))
	}
	return out
}

// MakeName makes a name of labels, see chapter 2.
func MakeName(labels []string) (string, int64) {
	if len(labels) > maxLabels {
		return "", ErrLong
	}
	for _, label := range labels {
		if !labelFits(len(label)) {
			return "", ErrLabel
		}
	}
	return labelList(labels).wire()
}

// FoldName is a name in small letters, see chapter 2.
func FoldName(name string) string {
	if !NameOK(name) {
		return ""
	}
	// The bytes that tell lengths are below 'A': folding leaves them.
	return foldText(name)
}

// SameName tells whether two names are the same, see chapter 2.
func SameName(a, b string) bool {
	return NameOK(a) && NameOK(b) && compareFolded(a, b) == 0
}

// IsUnder tells whether a name is another or below it, see chapter 2.
func IsUnder(name, above string) bool {
	low, lowOK := splitName(name)
	high, highOK := splitName(above)
	return lowOK && highOK && low.under(high)
}

// CompareNames orders names, see chapter 2.
func CompareNames(a, b string) int64 {
	first, firstOK := splitName(a)
	second, secondOK := splitName(b)
	if !firstOK || !secondOK {
		return 0
	}
	return int64(first.compare(second))
}

// Ancestor is a name without its first labels, see chapter 2.
func Ancestor(name string, n int64) (string, int64) {
	list, ok := splitName(name)
	if !ok || n < 0 || n > int64(len(list)) {
		return "", ErrForm
	}
	return list[n:].wire()
}

// ReplaceTail puts a name below another one, see chapter 2.
func ReplaceTail(name, from, to string) (string, int64) {
	list, listOK := splitName(name)
	old, oldOK := splitName(from)
	tail, tailOK := splitName(to)
	if !listOK || !oldOK || !tailOK {
		return "", ErrForm
	}
	if len(list) == len(old) || !list.under(old) {
		return "", ErrZone
	}
	return list[:len(list)-len(old)].join(tail).wire()
}

// readEscape reads the escape that text begins with: its byte, and how many bytes it takes; false if it is ill.
func readEscape(text string) (byte, int, bool) {
	if len(text) < 2 {
		return 0, 0, false
	}
	if !isDigit(text[1]) {
		return text[1], 2, true
	}
	if len(text) < 4 || !isDigit(text[2]) || !isDigit(text[3]) {
		return 0, 0, false
	}
	number := int(text[1]-'0')*100 + int(text[2]-'0')*10 + int(text[3]-'0')
	if number > 255 {
		return 0, 0, false
	}
	return byte(number), 4, true
}

func isDigit(c byte) bool { return c >= '0' && c <= '9' }

// scanLabels reads the labels of a text; absolute tells whether a dot that is no escaped one ends it.
func scanLabels(text string) (list labelList, absolute bool, code int64) {
	at := 0
scan:
	for at < len(text) {
		var label []byte
		for at < len(text) {
			switch text[at] {
			case '.':
				if !labelFits(len(label)) {
					return nil, false, ErrLabel
				}
				list = append(list, string(label))
				at++
				continue scan
			case '\\':
				c, size, ok := readEscape(text[at:])
				if !ok {
					return nil, false, ErrEscape
				}
				label = append(label, c)
				at += size
			default:
				label = append(label, text[at])
				at++
			}
		}
		if !labelFits(len(label)) {
			return nil, false, ErrLabel
		}
		return append(list, string(label)), false, OK
	}
	return list, true, OK
}

// ReadName reads a name's text, see chapter 2.
func ReadName(text, origin string) (string, int64) {
	tail, ok := splitName(origin)
	switch {
	case origin != "" && !ok:
		return "", ErrForm
	case len(text) > MaxNameText:
		return "", ErrLong
	case text == "":
		return "", ErrName
	case text == "@" && origin == "":
		return "", ErrRelative
	case text == "@":
		return strings.Clone(origin), OK
	case text == ".":
		return root, OK
	}
	list, absolute, code := scanLabels(text)
	if code != OK {
		return "", code
	}
	if absolute {
		return list.wire()
	}
	if origin == "" {
		return "", ErrRelative
	}
	return list.join(tail).wire()
}

// isMark tells whether a byte means something in a zone's text, if it has no escape.
func isMark(c byte) bool {
	return strings.IndexByte(`.\";()@$`, c) >= 0
}

// showByte adds a byte of a label as text.
func showByte(out []byte, c byte) []byte {
	switch {
	case isMark(c):
		out = append(out, '\\')
		fallthrough
	case c >= 33 && c <= 126:
		return append(out, c)
	}
	return showNumber(out, c)
}

// showNumber adds a byte as an escape with its number.
func showNumber(out []byte, c byte) []byte {
	return append(out, '\\', '0'+c/100, '0'+c/10%10, '0'+c%10)
}

// ShowName writes a name as text, see chapter 2.
func ShowName(name string) (string, int64) {
	list, ok := splitName(name)
	if !ok {
		return "", ErrName
	}
	if len(list) == 0 {
		return ".", OK
	}
	var out []byte
	for _, label := range list {
		for i := range len(label) {
			out = showByte(out, label[i])
		}
		out = append(out, '.')
	}
	return string(out), OK
}
