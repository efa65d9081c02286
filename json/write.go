package json

import (
	"strconv"

	"lychgate/api"
)

const hexDigits = "0123456789abcdef"

// Write returns the text of v, or ErrArg if v is not valid.
func Write(v Value) (string, api.Errno) {
	if !Right(v) {
		return "", api.ErrArg
	}
	return string(addValue(nil, v)), api.OK
}

// addValue returns b with the text of v behind it.
func addValue(b []byte, v Value) []byte {
	switch v.Kind {
	case False:
		return append(b, "false"...)
	case True:
		return append(b, "true"...)
	case Number:
		return strconv.AppendInt(b, v.Num, 10)
	case Text:
		return addText(b, v.Str)
	case List, Object:
		return addKids(b, v)
	}
	return append(b, "null"...)
}

// addKids returns b with the text of v behind it, which is a list or an object.
func addKids(b []byte, v Value) []byte {
	b = append(b, opening[v.Kind])
	for i, kid := range v.Kids {
		if i > 0 {
			b = append(b, ',')
		}
		if v.Kind == Object {
			b = append(addText(b, v.Keys[i]), ':')
		}
		b = addValue(b, kid)
	}
	return append(b, closing[v.Kind])
}

// addText returns b with s behind it, between double quotes.
func addText(b []byte, s string) []byte {
	b = append(b, '"')
	for i := range len(s) {
		c := s[i]
		switch {
		case c == '"' || c == '\\':
			b = append(b, '\\', c)
		case c < ' ':
			b = append(b, '\\', 'u', '0', '0', hexDigits[c>>4], hexDigits[c&15])
		default:
			b = append(b, c)
		}
	}
	return append(b, '"')
}
