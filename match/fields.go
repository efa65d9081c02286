package match

import (
	"slices"

	"lychgate/api"
)

// Name reports whether s is a valid name.
func Name(s string) bool {
	if s == "" || len(s) > api.MaxName || isDigit(s[0]) {
		return false
	}
	for i := range len(s) {
		if !isLetter(s[i]) && !isDigit(s[i]) && s[i] != '_' {
			return false
		}
	}
	return true
}

func isLetter(c byte) bool {
	return c >= 'a' && c <= 'z'
}

func isDigit(c byte) bool {
	return c >= '0' && c <= '9'
}

// Right reports whether l are valid fields.
func Right(l []api.Field) bool {
	if len(l) > api.MaxFields {
		return false
	}
	for i, f := range l {
		if !Name(f.Name) || len(f.Value) > api.MaxText {
			return false
		}
		if i > 0 && l[i-1].Name >= f.Name {
			return false
		}
	}
	return true
}

// Value returns the value of the first field with this name, or "" if there is
// none.
func Value(l []api.Field, name string) string {
	for _, f := range l {
		if f.Name == name {
			return f.Value
		}
	}
	return ""
}

// With returns l in which the field with this name has this value. A new field
// is inserted at its place in the order of names.
func With(l []api.Field, name, value string) []api.Field {
	at := 0
	for at < len(l) && l[at].Name < name {
		at++
	}
	behind := l[at:]
	if len(behind) > 0 && behind[0].Name == name {
		behind = behind[1:]
	}
	return slices.Concat(l[:at], []api.Field{{Name: name, Value: value}}, behind)
}

// Without returns the fields in l that do not have this name.
func Without(l []api.Field, name string) []api.Field {
	var kept []api.Field
	for _, f := range l {
		if f.Name != name {
			kept = append(kept, f)
		}
	}
	return kept
}

// Pick returns the fields in l whose names are among names, in the order of l.
func Pick(l []api.Field, names []string) []api.Field {
	var picked []api.Field
	for _, f := range l {
		if slices.Contains(names, f.Name) {
			picked = append(picked, f)
		}
	}
	return picked
}
