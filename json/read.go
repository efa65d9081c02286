package json

import (
	"slices"
	"strconv"
	"strings"
	"unicode/utf8"

	"lychgate/api"
)

// What may stand behind a backslash beside u, and what it is read as.
const (
	escapes  = `"\/bfnrt`
	unescape = "\"\\/\b\f\n\r\t"
)

// A surrogate pair is one of highFirst to lowFirst-1, and one of lowFirst to
// lowLast; each of them gives ten bits of how far a code point is from
// pairFirst.
const (
	highFirst = 55296
	lowFirst  = 56320
	lowLast   = 57343
	pairFirst = 65536
)

// Read returns the value that s represents, or the first error from left to
// right.
func Read(s string) (Value, api.Errno) {
	r := reader{
		rest:  s,
		words: map[string]int{"null": Null, "false": False, "true": True},
	}
	r.skipBlanks()
	v, e := r.value(0)
	if e == api.OK && r.rest != "" {
		e = api.ErrForm
	}
	if e != api.OK {
		return Value{}, e
	}
	return v, api.OK
}

// reader is what remains to be read, and how many values have begun before it.
type reader struct {
	rest   string
	values int
	words  map[string]int // the kinds that are written as words
}

// value reads a value inside depth lists and objects, and the blanks after it.
func (r *reader) value(depth int) (Value, api.Errno) {
	defer r.skipBlanks()
	// This comes ahead of a look at the text, as one value too many is an
	// error whatever stands there.
	if r.values == maxValues {
		return Value{}, api.ErrLong
	}
	r.values++
	if r.rest == "" {
		return Value{}, api.ErrForm
	}
	switch c := r.rest[0]; {
	case c == '"':
		s, e := r.text()
		return Value{Kind: Text, Str: s}, e
	case c == opening[List]:
		return r.kids(List, depth)
	case c == opening[Object]:
		return r.kids(Object, depth)
	case c == '-' || isDigit(c):
		return r.number()
	}
	return r.word()
}

// word reads null, false or true.
func (r *reader) word() (Value, api.Errno) {
	n := 0
	for n < len(r.rest) && 'a' <= r.rest[n] && r.rest[n] <= 'z' {
		n++
	}
	kind, ok := r.words[r.rest[:n]]
	if !ok {
		return Value{}, api.ErrForm
	}
	r.rest = r.rest[n:]
	return Value{Kind: kind}, api.OK
}

// number reads a number. Comparing with the number's own text rules out -0 and
// leading zeros, which ParseInt takes.
func (r *reader) number() (Value, api.Errno) {
	n := 1
	for n < len(r.rest) && isDigit(r.rest[n]) {
		n++
	}
	num, err := strconv.ParseInt(r.rest[:n], 10, 64)
	if err != nil || strconv.FormatInt(num, 10) != r.rest[:n] {
		return Value{}, api.ErrForm
	}
	r.rest = r.rest[n:]
	return Value{Kind: Number, Num: num}, api.OK
}

// kids reads a list or an object that is inside depth others.
func (r *reader) kids(kind, depth int) (Value, api.Errno) {
	if depth == api.MaxDepth {
		return Value{}, api.ErrDeep
	}
	v := Value{Kind: kind}
	r.take(opening[kind])
	r.skipBlanks()
	for !r.take(closing[kind]) {
		if len(v.Kids) > 0 && !r.comma() {
			return Value{}, api.ErrForm
		}
		if e := r.entry(&v, depth+1); e != api.OK {
			return Value{}, e
		}
	}
	return v, api.OK
}

// comma reads the comma between two entries. What follows it has to be an
// entry, so a closing bracket there is an error.
func (r *reader) comma() bool {
	if !r.take(',') {
		return false
	}
	r.skipBlanks()
	return true
}

// entry reads the next entry of the list or object v, inside depth lists and
// objects.
func (r *reader) entry(v *Value, depth int) api.Errno {
	if v.Kind == Object {
		key, e := r.key(v.Keys)
		if e != api.OK {
			return e
		}
		v.Keys = append(v.Keys, key)
	}
	kid, e := r.value(depth)
	if e != api.OK {
		return e
	}
	v.Kids = append(v.Kids, kid)
	return api.OK
}

// key reads a key that is none of earlier, and the colon behind it.
func (r *reader) key(earlier []string) (string, api.Errno) {
	key, e := r.text()
	if e != api.OK {
		return "", e
	}
	r.skipBlanks()
	if slices.Contains(earlier, key) || !r.take(':') {
		return "", api.ErrForm
	}
	r.skipBlanks()
	return key, api.OK
}

// text reads a text. Only its end tells that it is too long: an error of form
// inside it comes first.
func (r *reader) text() (string, api.Errno) {
	if !r.take('"') {
		return "", api.ErrForm
	}
	var b []byte
	for !r.take('"') {
		c, ok := r.sign()
		if !ok {
			return "", api.ErrForm
		}
		b = utf8.AppendRune(b, c)
	}
	if len(b) > api.MaxText {
		return "", api.ErrLong
	}
	return string(b), api.OK
}

// sign reads one code point of a text, as it is or escaped.
func (r *reader) sign() (rune, bool) {
	if r.take('\\') {
		return r.escape()
	}
	c, size := utf8.DecodeRuneInString(r.rest)
	// Size tells what is not UTF-8, and the end, from a code point 65533 that
	// is there.
	if c < ' ' || c == utf8.RuneError && size <= 1 {
		return 0, false
	}
	r.rest = r.rest[size:]
	return c, true
}

// escape reads what follows a backslash.
func (r *reader) escape() (rune, bool) {
	if r.take('u') {
		return r.codePoint()
	}
	if r.rest == "" {
		return 0, false
	}
	i := strings.IndexByte(escapes, r.rest[0])
	if i < 0 {
		return 0, false
	}
	r.rest = r.rest[1:]
	return rune(unescape[i]), true
}

// codePoint reads what follows \u: four digits, and if they are the first half
// of a surrogate pair, its second half.
func (r *reader) codePoint() (rune, bool) {
	high, ok := r.fourDigits()
	if !ok || high < highFirst || high > lowLast {
		return high, ok
	}
	if high >= lowFirst || !r.take('\\') || !r.take('u') {
		return 0, false
	}
	low, ok := r.fourDigits()
	if !ok || low < lowFirst || low > lowLast {
		return 0, false
	}
	return pairFirst + (high-highFirst)<<10 + low - lowFirst, true
}

// fourDigits reads a number of four hexadecimal digits.
func (r *reader) fourDigits() (rune, bool) {
	if len(r.rest) < 4 {
		return 0, false
	}
	n, err := strconv.ParseUint(r.rest[:4], 16, 16)
	if err != nil {
		return 0, false
	}
	r.rest = r.rest[4:]
	return rune(n), true
}

// take reads c, if it is the next byte.
func (r *reader) take(c byte) bool {
	if r.rest == "" || r.rest[0] != c {
		return false
	}
	r.rest = r.rest[1:]
	return true
}

func (r *reader) skipBlanks() {
	r.rest = strings.TrimLeft(r.rest, "\t\n\r ")
}

func isDigit(c byte) bool { return '0' <= c && c <= '9' }
