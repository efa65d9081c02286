package match

import (
	"strings"

	"lychgate/api"
)

// signs are the texts of the Ops, in their order.
var signs = [4]string{"=", "!=", "=~", "!~"}

// Text returns the text of the matchers, or ErrArg if one of them is not
// valid, or if there are more than MaxRules.
func Text(m []api.Matcher) (string, api.Errno) {
	if len(m) > api.MaxRules {
		return "", api.ErrArg
	}
	var texts []string
	for _, one := range m {
		if !Fine(one) {
			return "", api.ErrArg
		}
		texts = append(texts, one.Name+signs[one.Op]+quoted(one.Value))
	}
	return strings.Join(texts, ","), api.OK
}

// quoted returns s between quotes, with a \ ahead of each byte that would end
// it or stand for another one.
func quoted(s string) string {
	b := []byte{'"'}
	for i := range len(s) {
		if escaped(s[i]) {
			b = append(b, '\\')
		}
		b = append(b, s[i])
	}
	return string(append(b, '"'))
}

func escaped(c byte) bool {
	return c == '"' || c == '\\'
}

// Read returns the valid matchers, at most MaxRules, with the text s, or
// ErrForm if there are none such.
func Read(s string) ([]api.Matcher, api.Errno) {
	var m []api.Matcher
	rest, more := s, s != ""
	for more {
		one, behind, ok := readMatcher(rest)
		if !ok || len(m) == api.MaxRules {
			return nil, api.ErrForm
		}
		m = append(m, one)
		rest, more = strings.CutPrefix(behind, ",")
	}
	if rest != "" {
		return nil, api.ErrForm
	}
	return m, api.OK
}

// readMatcher reads the valid matcher at the beginning of s, and returns what
// is behind it.
func readMatcher(s string) (api.Matcher, string, bool) {
	at := strings.IndexAny(s, "=!")
	if at < 0 {
		return api.Matcher{}, "", false
	}
	op, behind, ok := readSign(s[at:])
	if !ok {
		return api.Matcher{}, "", false
	}
	value, behind, ok := readValue(behind)
	m := api.Matcher{Name: s[:at], Op: op, Value: value}
	if !ok || !Fine(m) {
		return api.Matcher{}, "", false
	}
	return m, behind, true
}

// readSign reads the sign of an Op and the quote behind it: without the quote,
// = would be found where =~ is.
func readSign(s string) (int, string, bool) {
	for op, sign := range signs {
		if behind, ok := strings.CutPrefix(s, sign+`"`); ok {
			return op, behind, true
		}
	}
	return 0, "", false
}

// readValue reads a value up to the quote that ends it, and returns what is
// behind that quote.
func readValue(s string) (value, behind string, ok bool) {
	var b []byte
	for i := 0; i < len(s); i++ {
		if s[i] == '"' {
			return string(b), s[i+1:], true
		}
		if s[i] == '\\' {
			i++
			if i == len(s) || !escaped(s[i]) {
				return "", "", false
			}
		}
		b = append(b, s[i])
	}
	return "", "", false
}
