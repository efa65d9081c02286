package word

import (
	"strings"

	"lychgate/api"
	"lychgate/match"
)

const (
	// none is the text of no names.
	none = "-"
	// maxDigits is how many digits a number may have.
	maxDigits = 9
)

// Names returns the names in s, which commas separate, or ErrForm if there is
// something else in s, or a name twice.
func Names(s string) ([]string, api.Errno) {
	if s == none {
		return nil, api.OK
	}
	names := strings.Split(s, ",")
	seen := make(map[string]struct{})
	for _, name := range names {
		_, twice := seen[name]
		if twice || !match.Name(name) {
			return nil, api.ErrForm
		}
		seen[name] = struct{}{}
	}
	return names, api.OK
}

// NamesText returns the texts in l, separated by commas, or - if there are
// none.
func NamesText(l []string) string {
	if len(l) == 0 {
		return none
	}
	return strings.Join(l, ",")
}

// Number returns the number that s is in digits, or ErrForm if s is none, has
// a leading zero or more than maxDigits digits.
func Number(s string) (int, api.Errno) {
	if s == "" || len(s) > maxDigits || s[0] == '0' && s != "0" {
		return 0, api.ErrForm
	}
	n := 0
	for i := range len(s) {
		if s[i] < '0' || s[i] > '9' {
			return 0, api.ErrForm
		}
		n = n*10 + int(s[i]-'0')
	}
	return n, api.OK
}
