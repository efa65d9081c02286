package pattern

import (
	"fmt"
	"math/rand"
	"regexp"
	"strings"
	"testing"

	"lychgate/api"
)

// modelItem is a byte between the brackets of a class. It is plain if no \ is
// ahead of it.
type modelItem struct {
	c     byte
	plain bool
}

// modelItems returns the items of the class that begins with the [ at p[0],
// whether it is inverted, and how many bytes it has; 0 if it does not end.
func modelItems(p string) (items []modelItem, inverted bool, size int) {
	i := 1
	if inverted = strings.HasPrefix(p, "[^"); inverted {
		i = 2
	}
	for ; i < len(p); i++ {
		switch {
		case p[i] == ']':
			return items, inverted, i + 1
		case p[i] != '\\':
			items = append(items, modelItem{p[i], true})
		case i+1 < len(p):
			i++
			items = append(items, modelItem{p[i], false})
		}
	}
	return nil, false, 0
}

// modelClass returns the bytes of the class that begins at p[0], and its size;
// 0 if it is not valid. It forms ranges by the chapter's words: by what is
// ahead of a - and what is behind it.
func modelClass(p string) (in [256]bool, size int) {
	items, inverted, size := modelItems(p)
	if len(items) == 0 {
		return in, 0
	}
	follows := false // whether the item ahead is a byte that does not end a range
	for i := 0; i < len(items); i++ {
		if items[i].c != '-' || !items[i].plain || !follows || i+1 == len(items) {
			in[items[i].c] = true
			follows = true
			continue
		}
		first, last := int(items[i-1].c), int(items[i+1].c)
		if last < first {
			return in, 0
		}
		for c := first; c <= last; c++ {
			in[c] = true
		}
		i++
		follows = false
	}
	if inverted {
		for c := range in {
			in[c] = !in[c]
		}
	}
	return in, size
}

// modelRight goes through the signs of p from left to right, without nesting.
func modelRight(p string) api.Errno {
	if len(p) > 100 {
		return api.ErrLong
	}
	open, repeatable := 0, false
	for p != "" {
		size := 1
		switch p[0] {
		case '(':
			if open == 8 {
				return api.ErrDeep
			}
			open++
			repeatable = false
		case ')':
			if open == 0 {
				return api.ErrForm
			}
			open--
			repeatable = true
		case '|':
			repeatable = false
		case '*', '+', '?':
			if !repeatable {
				return api.ErrForm
			}
			repeatable = false
		case ']':
			return api.ErrForm
		case '[':
			if _, size = modelClass(p); size == 0 {
				return api.ErrForm
			}
			repeatable = true
		case '\\':
			if size = 2; len(p) < 2 {
				return api.ErrForm
			}
			repeatable = true
		default:
			repeatable = true
		}
		p = p[size:]
	}
	if open > 0 {
		return api.ErrForm
	}
	return api.OK
}

// widened turns each byte of s into a code point, as package regexp matches
// code points.
func widened(s string) string {
	var b strings.Builder
	for i := range len(s) {
		b.WriteRune(rune(s[i]))
	}
	return b.String()
}

// modelPattern translates the valid pattern p for package regexp.
func modelPattern(p string) *regexp.Regexp {
	var b strings.Builder
	for p != "" {
		size := 1
		switch c := p[0]; c {
		case '(':
			b.WriteString("(?:")
		case ')', '|', '*', '+', '?':
			b.WriteByte(c)
		case '.':
			b.WriteString(`[\x{0}-\x{ff}]`)
		case '[':
			var in [256]bool
			in, size = modelClass(p)
			text := ""
			for c := range in {
				if in[c] {
					text += fmt.Sprintf(`\x{%x}`, c)
				}
			}
			if text == "" {
				text = `\x{10ffff}` // no byte becomes this
			}
			b.WriteString("[" + text + "]")
		case '\\':
			size = 2
			fmt.Fprintf(&b, `\x{%x}`, p[1])
		default:
			fmt.Fprintf(&b, `\x{%x}`, c)
		}
		p = p[size:]
	}
	return regexp.MustCompile(`\A(?:` + b.String() + `)\z`)
}

// modelFits holds s against the pattern of modelPattern.
func modelFits(m *regexp.Regexp, s string) bool {
	return m.MatchString(widened(s))
}

// allTexts returns the texts of at most size signs, the shorter ones first,
// and those of a length in the order of the signs.
func allTexts(size int, signs string) []string {
	texts := []string{""}
	from := 0
	for range size {
		to := len(texts)
		for _, s := range texts[from:to] {
			for i := range len(signs) {
				texts = append(texts, s+signs[i:i+1])
			}
		}
		from = to
	}
	return texts
}

func randomSign(r *rand.Rand) byte {
	if r.Intn(8) == 0 {
		return byte(r.Intn(256))
	}
	return "aaabbbccc-^*.\\|\x00\xff\x80"[r.Intn(18)]
}

// randomClass is a valid class.
func randomClass(r *rand.Rand) string {
	for {
		s := "[" + []string{"", "", "^"}[r.Intn(3)]
		for range 1 + r.Intn(4) {
			s += []string{"a", "b", "c", "-", "-", "^", "\\-", "\\]", "\\\\", "\\^", "a-c", "a-b", ".", "\x00-a", "b-\xff", "(", "|"}[r.Intn(17)]
		}
		s += "]"
		if _, size := modelClass(s); size == len(s) {
			return s
		}
	}
}

// randomPattern is a valid pattern inside at most depth parentheses, if it
// isn't too long.
func randomPattern(r *rand.Rand, depth int) string {
	s := ""
	for i := range 1 + r.Intn(3)*r.Intn(2) {
		if i > 0 {
			s += "|"
		}
		s += randomSequence(r, depth)
	}
	return s
}

// randomSequence is a valid pattern without a | outside parentheses.
func randomSequence(r *rand.Rand, depth int) string {
	s := ""
	for range r.Intn(4) {
		switch k := r.Intn(10); {
		case k < 3 && depth > 0:
			s += "(" + randomPattern(r, depth-1) + ")"
		case k == 4:
			s += "."
		case k == 5:
			s += randomClass(r)
		default:
			s += Quote(string([]byte{randomSign(r)}))
		}
		s += []string{"", "", "*", "+", "?"}[r.Intn(5)]
	}
	return s
}

// randomValid is a valid pattern of at most size bytes.
func randomValid(t *testing.T, r *rand.Rand, size int) string {
	t.Helper()
	for {
		p := randomPattern(r, r.Intn(5))
		if len(p) > size {
			continue
		}
		if e := modelRight(p); e != api.OK {
			t.Fatalf("the test's own pattern %q: %d", p, e)
		}
		return p
	}
}

func randomTextOf(r *rand.Rand, size int) string {
	b := make([]byte, r.Intn(size+1))
	for i := range b {
		b[i] = randomSign(r)
	}
	return string(b)
}
