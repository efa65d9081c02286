package json

import (
	"bytes"
	stdjson "encoding/json"
	"fmt"
	"math"
	"math/rand"
	"strings"
	"testing"

	"lychgate/api"
)

// TestWrite (P4.1): the text of every kind.
func TestWrite(t *testing.T) {
	for _, c := range []struct {
		v    Value
		want string
	}{
		{Value{}, "null"}, {Value{Kind: False}, "false"}, {Value{Kind: True}, "true"},
		{num(0), "0"}, {num(7), "7"}, {num(-7), "-7"}, {num(10), "10"}, {num(1000000), "1000000"},
		{num(math.MinInt64), "-9223372036854775808"}, {num(math.MinInt64 + 1), "-9223372036854775807"}, {num(math.MaxInt64), "9223372036854775807"},
		{text(""), `""`}, {text("a"), `"a"`}, {text(`a"b\c/d`), `"a\"b\\c/d"`}, {text(`\`), `"\\"`}, {text(`"`), `"\""`}, {text(`\u0041`), `"\\u0041"`},
		{text("\b\f\n\r\t"), `"\u0008\u000c\u000a\u000d\u0009"`}, {text("\x00\x0f\x10\x1a\x1f\x20"), `"\u0000\u000f\u0010\u001a\u001f "`},
		{text("\x7f"), "\"\x7f\""}, {text("é€𝄞"), `"é€𝄞"`}, {text("\u2028\ufeff\ufffd\u0080"), "\"\u2028\ufeff\ufffd\u0080\""}, {text("<>&'"), `"<>&'"`},
		{list(), "[]"}, {list(Value{}), "[null]"}, {list(num(1), text("a")), `[1,"a"]`}, {list(list(), list(list()), object()), "[[],[[]],{}]"},
		{object(), "{}"}, {object("a", num(1)), `{"a":1}`}, {object("b", num(1), "a", num(-2)), `{"b":1,"a":-2}`}, {object("", text("")), `{"":""}`},
		{object("\"\n\\é", list(object("x", Value{Kind: True}))), `{"\"\u000a\\é":[{"x":true}]}`},
		{nested(6, num(1)), `{"k":[{"k":[{"k":[1]}]}]}`},
		{text(strings.Repeat("\x01", 200)), `"` + strings.Repeat(`\u0001`, 200) + `"`},
		{list(many(399, Value{})...), "[" + strings.Repeat("null,", 398) + "null]"},
	} {
		if got, e := Write(c.v); got != c.want || e != api.OK {
			t.Errorf("Write(%s) is %s, %d", dump(c.v), got, e)
		}
	}
}

// TestWriteEveryByte (P4.1): as a value and as a key.
func TestWriteEveryByte(t *testing.T) {
	for c := range 128 {
		s := string([]byte{byte(c)})
		want := s
		if c == '"' || c == '\\' {
			want = `\` + s
		} else if c < 32 {
			want = fmt.Sprintf(`\u%04x`, c)
		}
		if got, e := Write(object(s, text(s+s))); got != `{"`+want+`":"`+want+want+`"}` || e != api.OK {
			t.Errorf("Write of byte %d is %s, %d", c, got, e)
		}
	}
	for c := range rune(0x110000) {
		if c%97 != 0 || c < 128 || c >= 0xd800 && c <= 0xdfff {
			continue
		}
		if got, e := Write(text(string(c))); got != `"`+string(c)+`"` || e != api.OK {
			t.Fatalf("Write of code point %d is %s, %d", c, got, e)
		}
	}
}

// TestWriteInvalid (P4.1, R2): ErrArg, and no text.
func TestWriteInvalid(t *testing.T) {
	for name, v := range invalidValues() {
		if got, e := Write(v); got != "" || e != api.ErrArg {
			t.Errorf("Write of %s is %.40q, %d", name, got, e)
		}
	}
	for name, v := range validValues() {
		if got, e := Write(v); got == "" || e != api.OK {
			t.Errorf("Write of %s is %.40q, %d", name, got, e)
		}
	}
}

// plain turns v into what encoding/json makes of the same text.
func plain(v Value) any {
	switch v.Kind {
	case False, True:
		return v.Kind == True
	case Number:
		return stdjson.Number(fmt.Sprint(v.Num))
	case Text:
		return v.Str
	case List:
		l := []any{}
		for _, kid := range v.Kids {
			l = append(l, plain(kid))
		}
		return l
	case Object:
		m := map[string]any{}
		for i, kid := range v.Kids {
			m[v.Keys[i]] = plain(kid)
		}
		return m
	}
	return nil
}

// TestWrittenIsJSON (P4.1): another reader of JSON finds the same in it, and no
// blanks.
func TestWrittenIsJSON(t *testing.T) {
	r := rand.New(rand.NewSource(4))
	for range 3000 {
		left := 1 + r.Intn(400)
		v := randomValue(r, 6, &left)
		s, e := Write(v)
		if e != api.OK || !Right(v) {
			t.Fatalf("Write(%s): %d", dump(v), e)
		}
		d := stdjson.NewDecoder(strings.NewReader(s))
		d.UseNumber()
		var got any
		if err := d.Decode(&got); err != nil || fmt.Sprintf("%#v", got) != fmt.Sprintf("%#v", plain(v)) {
			t.Fatalf("%s is read by encoding/json as %#v, %v", s, got, err)
		}
		var compact bytes.Buffer
		if err := stdjson.Compact(&compact, []byte(s)); err != nil || compact.String() != s {
			t.Fatalf("%s has blanks", s)
		}
	}
}
