package json

import (
	stdjson "encoding/json"
	"fmt"
	"io"
	"math"
	"math/rand"
	"strings"
	"testing"
	"unicode/utf8"

	"lychgate/api"
)

// reads expects s to be read as want.
func reads(t *testing.T, s string, want Value) {
	t.Helper()
	got, e := Read(s)
	if e != api.OK || dump(got) != dump(want) {
		t.Errorf("Read(%.100q) is %.200s, %d, want %.200s", s, dump(got), e, dump(want))
	}
}

// fails expects s to be refused with want, and nothing to be returned beside.
func fails(t *testing.T, s string, want api.Errno) {
	t.Helper()
	got, e := Read(s)
	if e != want || dump(got) != dump(Value{}) {
		t.Errorf("Read(%.100q, %d bytes) is %.200s, %d, want %d", s, len(s), dump(got), e, want)
	}
}

// TestRead (P4.1): ordinary texts of every kind.
func TestRead(t *testing.T) {
	for s, want := range map[string]Value{
		"null": {}, "false": {Kind: False}, "true": {Kind: True}, "0": num(0), "5": num(5), "-5": num(-5), "10": num(10), "-10": num(-10), "100": num(100),
		`""`: text(""), `"a"`: text("a"), `"é€𝄞"`: text("é€𝄞"), "\"\x7f\"": text("\x7f"), "\"\ufeff\ufffd\u2028\"": text("\ufeff\ufffd\u2028"), `"[1,]{}:"`: text("[1,]{}:"), `"null"`: text("null"), `" a "`: text(" a "), `"'"`: text("'"),
		"[]": list(), "[1]": list(num(1)), "[1,2]": list(num(1), num(2)), "[null,false,true]": list(Value{}, Value{Kind: False}, Value{Kind: True}), "[[],[[]],{}]": list(list(), list(list()), object()),
		"{}": object(), `{"a":1}`: object("a", num(1)), `{"":""}`: object("", text("")), `{"b":1,"a":[{"b":null}]}`: object("b", num(1), "a", list(object("b", Value{}))),
		`{"a":1,"A":1,"a ":1,"b":{"a":1}}`: object("a", num(1), "A", num(1), "a ", num(1), "b", object("a", num(1))),
		"{\"\u00e9\":1,\"e\u0301\":2}":     object("\u00e9", num(1), "e\u0301", num(2)),
	} {
		reads(t, s, want)
	}
}

// TestReadNumbers (P4.1): the ends of the range, and forms that are none here.
func TestReadNumbers(t *testing.T) {
	for s, want := range map[string]int64{
		"-9223372036854775808": math.MinInt64, "-9223372036854775807": math.MinInt64 + 1, "9223372036854775807": math.MaxInt64, "9223372036854775806": math.MaxInt64 - 1, "-1": -1, "1": 1, "9": 9, "-9": -9,
	} {
		reads(t, s, num(want))
		reads(t, "["+s+","+s+"]", list(num(want), num(want)))
		reads(t, " { \"a\" : "+s+" } ", object("a", num(want)))
	}
	for _, s := range []string{
		"-9223372036854775809", "9223372036854775808", "18446744073709551616", "18446744073709551617", "-18446744073709551615", "10000000000000000000", strings.Repeat("9", 1000), "-" + strings.Repeat("1", 100000),
		"-0", "00", "01", "-01", "-00", "007", "-", "--1", "- 1", "+1", "+0", "-+1", "1-", "1+1", "1.0", "1.", ".5", "0.0", "-0.0", "-1.5", "1e5", "1E5", "0e0", "1e+2", "1e-2", "1.5e3", "-0e1",
		"0x1", "0b1", "0o1", "1_000", "1,000", "1 000", "1a", "1n", "NaN", "Infinity", "-Infinity", "١", "１", "1\x00", "-a", "0" + strings.Repeat("0", 500),
	} {
		fails(t, s, api.ErrForm)
		fails(t, "["+s+"]x", api.ErrForm)
		fails(t, `{"a":`+s+"x}", api.ErrForm)
	}
}

// TestReadNoValue (P4.1): texts that do not represent a value.
func TestReadNoValue(t *testing.T) {
	for _, s := range []string{
		"", " ", "\n\t\r ", "\x00", "nul", "n", "nulll", "Null", "NULL", "null ll", "n ull", "tru", "True", "truefalse", "true false", "fals", "falsey", "t", "f", "undefined", "a", "null0", "null\x00", "null\"\"", "null[]", "é", "\xff", "\ufeff1", "1\ufeff",
		`"`, `"a`, `a"`, `'a'`, `"a" "b"`, `"a"b`, `"""`, `"\`, `"\"`, `"a\"`,
		"[", "]", "[1", "[1,", "[1,]", "[,", "[,]", "[,1]", "[1,,2]", "[1 2]", "[1;2]", "[1:2]", "[1}", "[}", "[]]", "[][]", "[],", "[1]1", "[[1]", "[1]]", `["a":1]`, "[null null]", "[1,2", "[nul]", "[\"a]",
		"{", "}", "{]", "{}}", "{}{}", "{,}", "{1}", "{1:2}", "{null:1}", "{a:1}", `{"a"}`, `{"a",1}`, `{"a":}`, `{"a":1`, `{"a":1,`, `{"a":1,}`, `{,"a":1}`, `{"a":1,,"b":1}`, `{"a":1 "b":1}`, `{"a":1]`, `{"a"::1}`, `{:1}`, `{"a":1:2}`, `{"a" 1}`, `{"a`, `{"a"`, `{"a":`, `{"a":1;"b":2}`, `{"a":1},`, `{["a"]:1}`, `{{}:1}`, `{"a":1,2}`, `{"a":1,b:2}`, `{'a':1}`,
		"1 1", "1,", ",1", ",", ":", "null null", "1 x", "/**/1", "1//", "1#", "[1]x", `{"a":1}x`, `"a"x`, "1\v", "\v1", "1\f", "\f1", "1\u00a0", "\u00a01", "1\u2028", "1\x00",
	} {
		fails(t, s, api.ErrForm)
	}
}

// TestReadKeyTwice (P4.1): as keys are what they read as, escapes do not make
// two of one.
func TestReadKeyTwice(t *testing.T) {
	for _, s := range []string{
		`{"a":1,"a":2}`, `{"a":1,"a":1}`, `{"a":1,"b":2,"a":3}`, `{"":1,"":2}`, `{"a":1,"\u0061":2}`, `{"\n":1,"\u000A":2}`, `{"/":1,"\/":2}`, `{"𝄞":1,"\ud834\udd1e":2}`, `[{"a":{"b":1,"b":2}}]`, `{"a":1,"b":2,"b":2,"c":3}`,
		// Where the key ends it is there twice, ahead of all that follows.
		`{"a":1,"a":[[[[[[[`, `{"a":1,"a"`, `{"a":1,"a":"` + strings.Repeat("x", 201) + `"}`, `{"a":1,"a" x`,
	} {
		fails(t, s, api.ErrForm)
	}
	reads(t, `{"a":{"a":{"a":1}},"b":{"a":1}}`, object("a", object("a", object("a", num(1))), "b", object("a", num(1))))
}

// TestReadBlanks (P4.1): four bytes are blanks, between any two pieces.
func TestReadBlanks(t *testing.T) {
	pieces := []string{"", "{", `"a"`, ":", "[", "1", ",", "-2", ",", `" x "`, ",", "null", ",", "[", "]", ",", "{", "}", "]", ",", `"b"`, ":", "true", "}", ""}
	want := object("a", list(num(1), num(-2), text(" x "), Value{}, list(), object()), "b", Value{Kind: True})
	for c := range 256 {
		blank := string([]byte{byte(c)})
		isBlank := c == 9 || c == 10 || c == 13 || c == 32
		for i := 1; i < len(pieces); i++ {
			for _, run := range []string{blank, blank + blank, " " + blank + "\n"} {
				s := strings.Join(pieces[:i], "") + run + strings.Join(pieces[i:], "")
				if isBlank {
					reads(t, s, want)
				} else if got, e := Read(s); e == api.OK && dump(got) == dump(want) {
					t.Errorf("byte %d is read as a blank in %q", c, s)
				}
			}
		}
		if isBlank {
			reads(t, strings.Join(pieces, blank), want)
			for _, s := range []string{"1", `"a"`, "null", "[]", "{}"} {
				whole, _ := Read(s)
				reads(t, strings.Repeat(blank, 300)+s+strings.Repeat(blank, 300), whole)
			}
			for _, s := range []string{"nu" + blank + "ll", "-" + blank + "1", "1" + blank + "2", `"\` + blank + `n"`, `"\u00` + blank + `41"`, `"\ud834` + blank + `\udd1e"`, blank} {
				fails(t, s, api.ErrForm)
			}
		}
	}
}

// TestReadEscapes (P4.1): every byte behind a backslash.
func TestReadEscapes(t *testing.T) {
	known := map[byte]string{'"': "\"", '\\': "\\", '/': "/", 'b': "\b", 'f': "\f", 'n': "\n", 'r': "\r", 't': "\t"}
	for c := range 256 {
		s := `"x\` + string([]byte{byte(c)}) + `y"`
		if want, ok := known[byte(c)]; ok {
			reads(t, s, text("x"+want+"y"))
			reads(t, "{"+s+":1}", object("x"+want+"y", num(1)))
		} else {
			fails(t, s, api.ErrForm)
			fails(t, "{"+s+":1}", api.ErrForm)
		}
	}
	reads(t, `"\"\\\/\b\f\n\r\t\u0041"`, text("\"\\/\b\f\n\r\tA"))
	reads(t, `"\\u0041\\n"`, text(`\u0041\n`))
	reads(t, `"\u005c\u0022\u005Cn"`, text(`\"\n`))
	reads(t, `"\u00411"`, text("A1"))
}

// TestReadCodeUnits (P4.1): every \u with four digits, small and large ones.
func TestReadCodeUnits(t *testing.T) {
	for c := range rune(65536) {
		for _, s := range []string{fmt.Sprintf(`"\u%04x"`, c), fmt.Sprintf(`"\u%04X"`, c)} {
			if c >= 0xd800 && c <= 0xdfff {
				fails(t, s, api.ErrForm)
			} else {
				reads(t, s, text(string(c)))
			}
		}
	}
	reads(t, `"\uAbCd\uaBcD"`, text("\uabcd\uabcd"))
	for _, s := range []string{`"\u`, `"\u"`, `"\u0"`, `"\u00"`, `"\u004"`, `"\u004`, `"\u004g"`, `"\ug041"`, `"\u-041"`, `"\u+041"`, `"\u0x41"`, `"\u00_1"`, `"\u 041"`, `"\U0041"`, `"\u{41}"`, `"\u００41"`, `"\x41"`, `"\101"`, `"\u00\u0041"`} {
		fails(t, s, api.ErrForm)
	}
}

// TestReadPairs (P4.1): surrogate pairs, and halves of them.
func TestReadPairs(t *testing.T) {
	for c := rune(0x10000); c <= 0x10ffff; c++ {
		if c%61 != 0 && c > 0x10401 && c < 0x10fbff {
			continue
		}
		high, low := 0xd800+(c-0x10000)>>10, 0xdc00+(c-0x10000)&0x3ff
		reads(t, fmt.Sprintf(`"\u%04x\u%04X"`, high, low), text(string(c)))
	}
	reads(t, `"a\ud834\udd1eb\uDBFF\uDFFF"`, text("a𝄞b\U0010ffff"))
	for _, high := range []string{"d800", "d834", "dbff", "DBFF"} {
		for _, behind := range []string{
			"", "x", " ", `\`, `\n`, `\\`, `\\udc00`, `\u`, `\u0`, `\udc0`, `\udc0g`, `\u0041`, `\ud7ff`, `\ud800`, `\ud834`, `\udbff`, `\ue000`, `\uffff`, `\Udc00`, `xudc00`, `\xdc00`, `udc00`, ` \udc00`, `\u dc00`, `x\udc00`, "\xed\xb0\x80", "\u0000",
		} {
			fails(t, `"\u`+high+behind+`"`, api.ErrForm)
			fails(t, `"\u`+high+behind, api.ErrForm)
		}
		reads(t, `"\u`+high+`\udc00"`, text(pair(t, high, 0xdc00)))
		reads(t, `"\u`+high+`\uDFFF"`, text(pair(t, high, 0xdfff)))
	}
	for _, s := range []string{`"\udc00"`, `"\udfff"`, `"\udd1e\ud834"`, `"\udc00\udc00"`, `"\ud834\udd1e\udd1e"`, `"\ud834\udd1e\ud834"`, `"a\udd1eb"`} {
		fails(t, s, api.ErrForm)
		fails(t, "{"+s+":1}", api.ErrForm)
	}
}

func pair(t *testing.T, high string, low rune) string {
	var h rune
	if _, err := fmt.Sscanf(high, "%x", &h); err != nil {
		t.Fatal(err)
	}
	return string((h-0xd800)*1024 + low - 0xdc00 + 65536)
}

// TestReadRawBytes (P4.1): every byte inside a text, and what is not UTF-8.
func TestReadRawBytes(t *testing.T) {
	for c := range 256 {
		s := string([]byte{byte(c)})
		switch {
		case c == '"' || c == '\\' || c < 32 || c > 127:
			fails(t, `"`+s+`"`, api.ErrForm)
			fails(t, `{"`+s+`":1}`, api.ErrForm)
		default:
			reads(t, `"`+s+`"`, text(s))
			reads(t, `{"`+s+`":1}`, object(s, num(1)))
		}
	}
	for c := range rune(0x110000) {
		if (c%53 == 0 || c > 0xffef && c < 0x10010) && c >= 128 && (c < 0xd800 || c > 0xdfff) {
			reads(t, `"`+string(c)+`"`, text(string(c)))
		}
	}
	for _, bad := range noUTF8() {
		for _, s := range []string{`"` + bad + `"`, `"a` + bad + `b"`, `"` + bad, `{"` + bad + `":1}`, `["a","` + bad + `"]`, `"` + bad + `\u0080"`, bad, "1" + bad, bad + "1", "[" + bad + "]"} {
			fails(t, s, api.ErrForm)
		}
	}
	fails(t, "\"\xc3\\u00a9\"", api.ErrForm)
	fails(t, "\"\xc3\"\xa9\"", api.ErrForm)
}

// TestReadLongTexts (P4.1): 200 and 201 bytes of what was read, not of how it
// was written.
func TestReadLongTexts(t *testing.T) {
	rep := strings.Repeat
	for raw, want := range map[string]string{
		rep("a", 200): rep("a", 200), rep("é", 100): rep("é", 100), rep("€", 66) + "ab": rep("€", 66) + "ab", rep("𝄞", 50): rep("𝄞", 50),
		rep(`\u0041`, 200): rep("A", 200), rep(`\u0000`, 200): rep("\x00", 200), rep(`\n`, 200): rep("\n", 200), rep(`\\`, 200): rep(`\`, 200), rep(`\u00e9`, 100): rep("é", 100), rep(`\u20ac`, 66) + "ab": rep("€", 66) + "ab", rep(`\ud834\udd1e`, 50): rep("𝄞", 50),
	} {
		reads(t, `"`+raw+`"`, text(want))
		reads(t, `{"`+raw+`":1}`, object(want, num(1)))
		for _, more := range []string{"a", `\u0041`, `\"`, "é", `\ud834\udd1e`, rep("a", 1000)} {
			long := `"` + raw + more + `"`
			for _, s := range []string{long, " " + long + " ", "[" + long + "]", "{" + long + ":1}", `{"a":` + long + "}", `{"a":1,` + long + ":1}",
				// The end of the text comes ahead of all that follows it.
				long + "x", "[" + long, "[" + long + "x", "{" + long, "{" + long + "x", "[" + long + ",[[[[[[[", "[" + long + ",01]"} {
				fails(t, s, api.ErrLong)
			}
			// What is inside the text, and a text without an end, come ahead of its length.
			for _, s := range []string{long[:len(long)-1], `"` + raw + more + "\n\"", `"` + raw + more + "\xff\"", `"` + raw + more + `\x"`, `"` + raw + more + `\ud834"`, `{"` + raw + more, `{"` + raw + more + "\x00\":1}", "[01," + long + "]", "[1.5," + long} {
				fails(t, s, api.ErrForm)
			}
		}
	}
	reads(t, `"`+rep("a", 199)+`"`, text(rep("a", 199)))
	fails(t, `"`+rep("a", 199)+`é"`, api.ErrLong)
	fails(t, `"`+rep("a", 198)+`\u20ac"`, api.ErrLong)
}

// openings are n lists and objects that begin, and closings their ends.
func openings(n int) (string, string) {
	open, end := "", ""
	for i := range n {
		if i%2 == 0 {
			open, end = open+"[", "]"+end
		} else {
			open, end = open+`{"k":`, "}"+end
		}
	}
	return open, end
}

// TestReadDepth (P4.1): six and seven nested lists and objects.
func TestReadDepth(t *testing.T) {
	reads(t, "[[[[[[]]]]]]", list(list(list(list(list(list()))))))
	reads(t, `{"a":{"a":{"a":{"a":{"a":{}}}}}}`, object("a", object("a", object("a", object("a", object("a", object()))))))
	reads(t, "[[[[[[1]]]]],[[[[[2]]]]],{}]", list(list(list(list(list(list(num(1)))))), list(list(list(list(list(num(2)))))), object()))
	open, end := openings(6)
	for _, inner := range []string{"[", "{", "[]", "{}", "[1]", `{"a":1}`, "[[", "[x", "{x", "[,", `{"a`, "1,[", "null , {", `"a",[]`, "[]]]]]]]]]", "[" + strings.Repeat("[", 1000), "[\"\xff", "[01", `["` + strings.Repeat("a", 201) + `"`} {
		if strings.HasPrefix(inner, "1,") || strings.HasPrefix(inner, "null") || strings.HasPrefix(inner, `"a"`) {
			fails(t, "[[[[[["+inner, api.ErrDeep)
			continue
		}
		fails(t, open+inner, api.ErrDeep)
		fails(t, open+" "+inner, api.ErrDeep)
		fails(t, open+inner+end, api.ErrDeep)
		fails(t, "[[[[[["+inner, api.ErrDeep)
		fails(t, `{"a":{"a":{"a":{"a":{"a":{"a":`+inner, api.ErrDeep)
	}
	// What comes ahead of the seventh.
	for _, inner := range []string{"01,[", "nul,[", "1 [", "\"\xff\",[", ",[", "],,[[", "x[", "1.0,["} {
		fails(t, "[[[[[["+inner, api.ErrForm)
	}
	fails(t, `[[[[[["`+strings.Repeat("a", 201)+`",[`, api.ErrLong)
	fails(t, `{"a":{"a":{"a":{"a":{"a":{"a"[`, api.ErrForm)
	fails(t, `{"a":{"a":{"a":{"a":{"a":{[`, api.ErrForm)
	fails(t, strings.Repeat("[", 100000), api.ErrDeep)
	fails(t, strings.Repeat(`{"a":`, 100000), api.ErrDeep)
	fails(t, strings.Repeat("[", 6), api.ErrForm)
	fails(t, strings.Repeat("]", 7), api.ErrForm)
}

// TestReadCount (P4.1): 400 and 401 values. Keys are none.
func TestReadCount(t *testing.T) {
	rep := strings.Repeat
	reads(t, "["+rep("1,", 398)+"1]", list(many(399, num(1))...))
	reads(t, "["+rep("[],", 398)+"{}]", list(append(many(398, list()), object())...))
	keys := ""
	for i := range 399 {
		keys += fmt.Sprintf(`"k%d":null,`, i)
	}
	reads(t, "{"+keys[:len(keys)-1]+"}", objectOf(399, Value{}))
	fails(t, "{"+keys+`"x":1}`, api.ErrLong)
	reads(t, "["+rep("1,", 396)+"[1],2]", list(append(many(396, num(1)), list(num(1)), num(2))...))
	fails(t, "["+rep("1,", 396)+"[1],2,3]", api.ErrLong)
	fails(t, "["+rep("1,", 396)+"[1,2],3]", api.ErrLong)
	fails(t, "["+rep("1,", 398)+"1] x", api.ErrForm)
	fails(t, "["+rep("1,", 398)+"1", api.ErrForm)
	fails(t, "["+rep("1,", 398)+"1 1]", api.ErrForm)
	fails(t, "["+rep("1,", 398)+"01,1]", api.ErrForm)
	fails(t, "["+rep("1,", 398)+"1.5,1]", api.ErrForm)
	fails(t, "["+rep("1,", 100000)+"1]", api.ErrLong)
}

// TestReadOneTooMany (P4.1): where the 401st value would begin, whatever stands
// there.
func TestReadOneTooMany(t *testing.T) {
	rep := strings.Repeat
	long := `"` + rep("a", 201) + `"`
	anything := []string{"", " ", "1", "1]", "]", "}", ",", "x", "null]", "nul", "01", "-", `"`, `"a"]`, long, "\"\xff\"", "[", "[]]", "[[[[[[[", "{", "{}]", ":", "\x00", "\xff"}
	for _, s := range anything {
		fails(t, "["+rep("1,", 399)+s, api.ErrLong)
		fails(t, "["+rep("1 , ", 399)+s, api.ErrLong)
		fails(t, "["+rep("1,", 398)+`{"a":`+s, api.ErrLong)
		fails(t, "["+rep("1,", 397)+`{"a":1,"b" : `+s, api.ErrLong)
		fails(t, "[[[[[["+rep("1,", 394)+s, api.ErrLong)
		if !strings.HasPrefix(s, "]") {
			fails(t, "["+rep("1,", 398)+"["+s, api.ErrLong)
		}
	}
	// No value begins there yet, or the list ends.
	reads(t, "["+rep("1,", 398)+"[ ]]", list(append(many(398, num(1)), list())...))
	reads(t, "["+rep("1,", 398)+"{ }]", list(append(many(398, num(1)), object())...))
	for _, s := range []string{"", "]", ",", "1", "[", `"a"`, `"a"}`, `"a" 1`, "\"a\xff", `"a\x":1`} {
		fails(t, "["+rep("1,", 398)+"{"+s, api.ErrForm)
	}
	for _, s := range []string{"", "}", "1", `"b"`, `"b",`, `"a":1`, `"a"`, "[[[[[[["} {
		fails(t, "["+rep("1,", 397)+`{"a":1,`+s, api.ErrForm)
	}
	fails(t, "["+rep("1,", 398)+"{"+long, api.ErrLong)
	fails(t, "["+rep("1,", 397)+`{"a":1,`+long+"x", api.ErrLong)
	// The 400th value may be the seventh of nested lists; the 401st is one too many first.
	fails(t, "[[[[[["+rep("1,", 393)+"[", api.ErrDeep)
	fails(t, "[[[[[["+rep("1,", 394)+"[", api.ErrLong)
	fails(t, "[[[[[["+rep("1,", 393)+long, api.ErrLong)
}

// TestReadFirstError (P4.1): of several errors, the first from left to right.
func TestReadFirstError(t *testing.T) {
	long := `"` + strings.Repeat("a", 201) + `"`
	bad := []struct {
		s string
		e api.Errno
	}{
		{"01", api.ErrForm}, {"nul", api.ErrForm}, {"1.5", api.ErrForm}, {"", api.ErrForm}, {`"\x"`, api.ErrForm}, {"\"\xff\"", api.ErrForm}, {`{"a":1,"a":1}`, api.ErrForm}, {`"` + strings.Repeat("a", 201) + `\q"`, api.ErrForm}, {"9223372036854775808", api.ErrForm}, {"[[1}]", api.ErrForm}, {"{1:1}", api.ErrForm},
		{"[[[[[[", api.ErrDeep}, {"[[[[[[]]]]]]", api.ErrDeep}, {`{"a":[[[[{"b":1}]]]]}`, api.ErrDeep}, {"[1,2,[[[[[[[[[1", api.ErrDeep},
		{long, api.ErrLong}, {"{" + long + ":1}", api.ErrLong}, {"[null," + long + "]", api.ErrLong},
	}
	good := []string{"1", "null", `"a"`, "[]", `{"a":1}`, "[[[[[]]]]]"}
	for _, a := range bad {
		for _, b := range bad {
			for _, g := range good {
				fails(t, "["+g+","+a.s+","+b.s+"]", a.e)
				fails(t, "["+a.s+","+g+" , "+b.s, a.e)
				fails(t, `{"x":`+g+`,"y":`+a.s+`,"z":`+b.s+"}", a.e)
				fails(t, `{"y":`+a.s+`,"x":`+b.s+`,"x":`, a.e)
				fails(t, "["+a.s+","+strings.Repeat("1,", 400)+b.s, a.e)
			}
		}
	}
}

// TestReadIsNew (R4): two lists of one result, and two results, share nothing.
func TestReadIsNew(t *testing.T) {
	s := `{"a":[1,[2,3]],"b":[4],"c":{"d":[5]}}`
	first, _ := Read(s)
	second, _ := Read(s)
	want := dump(second)
	spoil(first)
	if dump(second) != want {
		t.Error("two results share memory")
	}
	for i := range second.Kids {
		v, _ := Read(s)
		_ = append(v.Kids[i].Kids, num(9), num(9), num(9))
		_ = append(v.Kids[i].Keys, "x", "y")
		if dump(v) != want {
			t.Error("two lists of one result share memory")
		}
	}
}

// TestReadOfWritten (P4.2): what was written is read back.
func TestReadOfWritten(t *testing.T) {
	values := validValues()
	r := rand.New(rand.NewSource(40))
	for i := range 5000 {
		left := 1 + r.Intn(400)
		values[fmt.Sprint("random ", i)] = randomValue(r, 6, &left)
	}
	for name, v := range values {
		s, e := Write(v)
		if e != api.OK {
			t.Fatalf("Write of %s: %d", name, e)
		}
		got, e := Read(s)
		if e != api.OK || dump(got) != dump(v) || !Same(got, v) {
			t.Fatalf("%s, written as %s, is read as %s, %d", name, s, dump(got), e)
		}
		if again, e := Write(got); e != api.OK || again != s {
			t.Fatalf("%s is written as %s, and then as %s, %d", name, s, again, e)
		}
	}
}

// variant writes v as one of the many texts that represent it: with blanks, and
// with escapes that Write does not use.
func variant(r *rand.Rand, v Value) string {
	blank := func() string {
		return []string{"", "", "", " ", "\n", "\t", "\r\n", "  "}[r.Intn(8)]
	}
	inner := ""
	switch v.Kind {
	case Text:
		inner = variantText(r, v.Str)
	case List, Object:
		var parts []string
		for i, kid := range v.Kids {
			part := variant(r, kid)
			if v.Kind == Object {
				part = blank() + variantText(r, v.Keys[i]) + blank() + ":" + part
			}
			parts = append(parts, part)
		}
		inner = string("[{"[v.Kind-List]) + blank() + strings.Join(parts, ",") + blank() + string("]}"[v.Kind-List])
	default:
		inner, _ = Write(v)
	}
	return blank() + inner + blank()
}

func variantText(r *rand.Rand, s string) string {
	short := map[rune]string{'"': `\"`, '\\': `\\`, '/': `\/`, 8: `\b`, 12: `\f`, 10: `\n`, 13: `\r`, 9: `\t`}
	out := `"`
	for _, c := range s {
		n, ok := short[c]
		switch {
		case ok && r.Intn(2) == 0:
			out += n
		case c > 0xffff && r.Intn(2) == 0:
			out += fmt.Sprintf(`\u%04x\u%04X`, 0xd800+(c-0x10000)>>10, 0xdc00+(c-0x10000)&0x3ff)
		case c <= 0xffff && (c < 32 || c == '"' || c == '\\' || r.Intn(3) == 0):
			out += fmt.Sprintf([]string{`\u%04x`, `\u%04X`}[r.Intn(2)], c)
		default:
			out += string(c)
		}
	}
	return out + `"`
}

// TestWriteOfRead (P4.2): what was read is written, and then read as the same
// value, however its text looked.
func TestWriteOfRead(t *testing.T) {
	r := rand.New(rand.NewSource(41))
	for range 5000 {
		left := 1 + r.Intn(400)
		v := randomValue(r, 6, &left)
		s := variant(r, v)
		first, e := Read(s)
		if e != api.OK || !Same(first, v) || dump(first) != dump(v) || !Right(first) {
			t.Fatalf("%s is read as %s, %d, not as %s", s, dump(first), e, dump(v))
		}
		written, e := Write(first)
		if e != api.OK {
			t.Fatalf("what was read from %s is not written: %d", s, e)
		}
		if second, e := Read(written); e != api.OK || !Same(first, second) {
			t.Fatalf("%s, written as %s, is read as %s, %d", s, written, dump(second), e)
		}
	}
}

// acceptable tells by encoding/json, and by rules of our own where that is more
// lenient, whether s represents a value within the limits.
func acceptable(s string) bool {
	if !stdjson.Valid([]byte(s)) || !utf8.ValidString(s) {
		return false
	}
	d := stdjson.NewDecoder(strings.NewReader(s))
	d.UseNumber()
	type frame struct {
		keys map[string]bool // nil in a list
		key  bool            // whether a key is next
	}
	var open []frame
	count := 0
	for {
		tok, err := d.Token()
		if err == io.EOF {
			return count <= 400
		}
		if err != nil {
			return false
		}
		delim, isDelim := tok.(stdjson.Delim)
		if isDelim && (delim == ']' || delim == '}') {
			open = open[:len(open)-1]
			continue
		}
		top := len(open) - 1
		if str, ok := tok.(string); ok && (len(str) > 200 || strings.ContainsRune(str, utf8.RuneError)) {
			return false
		}
		if top >= 0 && open[top].keys != nil {
			if open[top].key {
				if open[top].keys[tok.(string)] {
					return false
				}
				open[top].keys[tok.(string)] = true
				open[top].key = false
				continue
			}
			open[top].key = true
		}
		count++
		if n, ok := tok.(stdjson.Number); ok {
			var i int64
			if _, err := fmt.Sscan(n.String(), &i); err != nil || fmt.Sprint(i) != n.String() {
				return false
			}
		}
		if isDelim {
			f := frame{}
			if delim == '{' {
				f = frame{keys: map[string]bool{}, key: true}
			}
			if open = append(open, f); len(open) > 6 {
				return false
			}
		}
	}
}

// TestReadMangled (P4.1): texts with random changes are taken or refused as
// another reader does, whatever their bytes.
func TestReadMangled(t *testing.T) {
	r := rand.New(rand.NewSource(42))
	bits := []string{"", "[", "]", "{", "}", ",", ":", `"`, `\`, `\u`, `\ud834`, `\udd1e`, "null", "true", "1", "0", "-", ".", "e", " ", "\n", "\x00", "\xff", "é", `"a":`, `{"a":1}`, "[[", "]]"}
	taken := 0
	for range 60000 {
		left := 1 + r.Intn(12)
		s := strings.ReplaceAll(variant(r, randomValue(r, 1+r.Intn(6), &left)), "\ufffd", "")
		s = strings.ReplaceAll(strings.ReplaceAll(s, `\ufffd`, ""), `\uFFFD`, "")
		for range r.Intn(3) {
			at := r.Intn(len(s) + 1)
			end := min(len(s), at+r.Intn(3))
			s = s[:at] + bits[r.Intn(len(bits))] + s[end:]
		}
		if strings.Contains(strings.ToLower(s), `\ufffd`) {
			continue
		}
		v, e := Read(s)
		if (e == api.OK) != acceptable(s) {
			t.Fatalf("Read(%q) is %s, %d", s, dump(v), e)
		}
		if e == api.OK {
			taken++
			continue
		}
		if dump(v) != dump(Value{}) || e != api.ErrForm && e != api.ErrDeep && e != api.ErrLong {
			t.Fatalf("Read(%q) is %s, %d", s, dump(v), e)
		}
	}
	if taken < 10000 || taken > 50000 {
		t.Errorf("%d of the texts were taken: too few or too many to tell", taken)
	}
}

// TestReadAnyBytes (T0, P4.1): random bytes end with a value or an error.
func TestReadAnyBytes(t *testing.T) {
	r := rand.New(rand.NewSource(43))
	for range 20000 {
		b := make([]byte, r.Intn(40))
		for i := range b {
			b[i] = `[]{},:"\un0123-. abctrue`[r.Intn(24)]
			if r.Intn(8) == 0 {
				b[i] = byte(r.Intn(256))
			}
		}
		if v, e := Read(string(b)); (e == api.OK) != acceptable(string(b)) || e == api.OK && !Right(v) {
			t.Fatalf("Read(%q) is %s, %d", b, dump(v), e)
		}
	}
}
