package match

import (
	"math/rand"
	"regexp"
	"slices"
	"strings"
	"testing"

	"lychgate/api"
	"lychgate/pattern"
)

// modelMatcher is the chapter's form of a matcher's text, at the beginning of
// a text.
var modelMatcher = regexp.MustCompile(`\A([a-z_][a-z0-9_]{0,11})(=|!=|=~|!~)"((?:[^"\\]|\\["\\])*)"`)

// modelEscape is what stands for the byte behind its \.
var modelEscape = regexp.MustCompile(`\\(.)`)

// modelRead reads one matcher after the other by that form.
func modelRead(s string) ([]api.Matcher, bool) {
	var l []api.Matcher
	if s == "" {
		return nil, true
	}
	for {
		part := modelMatcher.FindStringSubmatch(s)
		if part == nil {
			return nil, false
		}
		m := api.Matcher{Name: part[1], Op: slices.Index([]string{"=", "!=", "=~", "!~"}, part[2]), Value: modelEscape.ReplaceAllString(part[3], "$1")}
		if len(m.Value) > 200 || m.Op >= 2 && pattern.Right(m.Value) != api.OK {
			return nil, false
		}
		l = append(l, m)
		if s = s[len(part[0]):]; s == "" {
			return l, len(l) <= 12
		}
		if s[0] != ',' {
			return nil, false
		}
		s = s[1:]
	}
}

// readsLike holds Read of s against the model, and its text against s.
func readsLike(t *testing.T, s string) bool {
	t.Helper()
	want, ok := modelRead(s)
	got, e := Read(s)
	if !ok {
		if e != api.ErrForm || len(got) != 0 {
			t.Errorf("Read(%.60q) is %v, %d", s, got, e)
		}
		return false
	}
	if e != api.OK || !slices.Equal(got, want) {
		t.Errorf("Read(%.60q) is %v, %d", s, got, e)
	}
	if x, e := Text(got); e != api.OK || x != s {
		t.Errorf("Text(%v) is %.60q, %d", got, x, e)
	}
	return true
}

// TestText (P6.1, P6.2): ordinary matchers, and all that is escaped.
func TestText(t *testing.T) {
	is := func(value string) []api.Matcher { return []api.Matcher{{Name: "a", Value: value}} }
	long := strings.Repeat("v", 200)
	for _, c := range []struct {
		m    []api.Matcher
		want string
	}{
		{nil, ""}, {[]api.Matcher{}, ""},
		{is(""), `a=""`}, {is("b"), `a="b"`}, {is("~"), `a="~"`}, {is("="), `a="="`}, {is(","), `a=","`}, {is(`b",c="d`), `a="b\",c=\"d"`},
		{is(`"`), `a="\""`}, {is(`\`), `a="\\"`}, {is(`"\`), `a="\"\\"`}, {is(`\"`), `a="\\\""`}, {is(`\\`), `a="\\\\"`}, {is(`""`), `a="\"\""`}, {is(`\n`), `a="\\n"`}, {is("\n\t\r\x00 "), "a=\"\n\t\r\x00 \""}, {is("é\xff"), "a=\"é\xff\""}, {is("'`/"), "a=\"'`/\""},
		{is(long), `a="` + long + `"`}, {is(strings.Repeat(`\`, 200)), `a="` + strings.Repeat(`\`, 400) + `"`}, {is(strings.Repeat(`"`, 200)), `a="` + strings.Repeat(`\"`, 200) + `"`},
		{[]api.Matcher{{Name: "abcdefghijkl", Op: api.MatchNot, Value: "b"}}, `abcdefghijkl!="b"`},
		{[]api.Matcher{{Name: "_1", Op: api.MatchLike, Value: "b.*"}}, `_1=~"b.*"`},
		{[]api.Matcher{{Name: "a", Op: api.MatchNotLike, Value: `\.|"`}}, `a!~"\\.|\""`},
		{[]api.Matcher{{Name: "a", Op: api.MatchLike}}, `a=~""`},
		{[]api.Matcher{{Name: "a", Op: api.MatchLike, Value: `\\`}}, `a=~"\\\\"`},
		{[]api.Matcher{{Name: "team", Value: "a"}, {Name: "host", Op: api.MatchNotLike, Value: "x.*"}}, `team="a",host!~"x.*"`},
		{[]api.Matcher{{Name: "b", Value: "1"}, {Name: "a", Value: "2"}, {Name: "b", Value: "1"}}, `b="1",a="2",b="1"`},
		{[]api.Matcher{{Name: "a"}, {Name: "a", Op: 1}, {Name: "a", Op: 2}, {Name: "a", Op: 3}}, `a="",a!="",a=~"",a!~""`},
	} {
		if got, e := Text(c.m); e != api.OK || got != c.want {
			t.Errorf("Text(%v) is %q, %d", c.m, got, e)
		}
		if got, e := Read(c.want); e != api.OK || !slices.Equal(got, c.m) {
			t.Errorf("Read(%q) is %v, %d", c.want, got, e)
		}
		readsLike(t, c.want)
	}
}

// TestTextNot (P6.1): what has no text, wherever it is, and what is returned
// with the error.
func TestTextNot(t *testing.T) {
	good := api.Matcher{Name: "a", Value: "b"}
	for _, m := range spoiled() {
		for _, l := range [][]api.Matcher{{m}, {m, good}, {good, m}, {good, m, good}, append(slices.Repeat([]api.Matcher{good}, 11), m), append(slices.Repeat([]api.Matcher{good}, 12), m)} {
			if s, e := Text(l); e != api.ErrArg || s != "" {
				t.Errorf("Text(%v) is %q, %d", l, s, e)
			}
		}
	}
}

// TestTwelve (P6.1): twelve matchers have a text and are read, thirteen have
// none and are not.
func TestTwelve(t *testing.T) {
	for n := 1; n <= 30; n++ {
		var l []api.Matcher
		var texts []string
		for i := range n {
			l = append(l, api.Matcher{Name: "n" + strings.Repeat("x", i%12), Value: strings.Repeat(`"`, i)})
			texts = append(texts, "n"+strings.Repeat("x", i%12)+`="`+strings.Repeat(`\"`, i)+`"`)
		}
		want := strings.Join(texts, ",")
		s, e := Text(l)
		got, f := Read(want)
		if n <= 12 && (e != api.OK || s != want || f != api.OK || !slices.Equal(got, l)) {
			t.Errorf("%d: Text is %q, %d; Read is %v, %d", n, s, e, got, f)
		}
		if n > 12 && (e != api.ErrArg || s != "" || f != api.ErrForm || len(got) != 0) {
			t.Errorf("%d: Text is %q, %d; Read is %v, %d", n, s, e, got, f)
		}
	}
}

// TestReadNot (P6.1): texts of no matchers, alone and beside right ones.
func TestReadNot(t *testing.T) {
	long := strings.Repeat("v", 201)
	for _, s := range []string{
		"a", "a=", "=", "!", "~", `"`, `""`, "a!", "a=~", "a!~", "a!=", `\`, "-",
		`a="`, `a="b`, `a=b"`, `a=b`, `a"b"`, `a='b'`, `a=""b`, `a=b""`, `a=""""`, `a="b"c"`, "a=`b`",
		`a="\x"`, `a="\n"`, `a="\`, `a="\"`, `a="\\`, `a="\\\"`, `a="b\"`, `a="\,"`, `a="\` + "\x00" + `"`, `a="\ "`, `a=\"b"`, `a=\"b\"`, `a="b\""\`, `a="\~"`, `a="\u0022"`,
		`,`, `,,`, `a="b",`, `,a="b"`, `a="b",,a="b"`, `a="b"a="b"`, `a="b";a="b"`, `a="b" a="b"`, `a="b"` + "\n" + `a="b"`,
		` a="b"`, `a ="b"`, `a= "b"`, `a="b" `, `a="b", a="b"`, `a="b" ,a="b"`, " ", "\n", "\ta=\"b\"", `a! ="b"`, `a= ~"b"`, `a="b"` + "\n", `a="b"` + "\x00",
		`a=="b"`, `a~"b"`, `a~="b"`, `a=!"b"`, `a!"b"`, `a!!"b"`, `a!!="b"`, `a==~"b"`, `a=~~"b"`, `a!=~"b"`, `a!~="b"`, `a~~"b"`, `a<"b"`, `a>"b"`, `a:"b"`, `a!=="b"`, `a=~="b"`, `a=!~"b"`,
		`="b"`, `!="b"`, `=~"b"`, `!~"b"`, `A="b"`, `1="b"`, `1a="b"`, `abcdefghijklm="b"`, `a-b="b"`, `é="b"`, `a.b="b"`, `"a"="b"`, `a,b="c"`, `a"="b"`, `a\="b"`,
		`a="` + long + `"`, `a!="` + long + `"`, `a="` + strings.Repeat(`\"`, 201) + `"`,
		`a=~"("`, `a!~"("`, `a=~"*"`, `a=~"[b-a]"`, `a=~"\\"`, `a=~"a\\"`, `a!~"` + long[:101] + `"`, `a=~"` + long[:200] + `"`, `a=~"` + around(9, "") + `"`, `a=~"\.b"`,
		"none", `{a="b"}`, `a="b"}`, `(a="b")`,
	} {
		for _, text := range []string{s, `x="y",` + s, s + `,x="y"`, `x="y",` + s + `,x="y"`} {
			if readsLike(t, text) {
				t.Errorf("%.60q is read", text)
			}
		}
	}
	for _, s := range []string{`a="` + long[:200] + `"`, `a="` + strings.Repeat(`\"`, 200) + `"`, `a=~"` + long[:100] + `"`, `a="("`, `a!="\\"`, `a=~"` + around(8, "") + `"`, `a=~"\\("`} {
		if !readsLike(t, s) {
			t.Errorf("%.60q is not read", s)
		}
	}
}

// TestReadShort (P6.1, P6.2): all short texts of some signs, held against the
// form.
func TestReadShort(t *testing.T) {
	const signs = `a1=!~"\,`
	count := 0
	var walk func(s string, n int)
	walk = func(s string, n int) {
		if readsLike(t, s) {
			count++
		}
		if n == 0 || t.Failed() {
			return
		}
		for i := range len(signs) {
			walk(s+signs[i:i+1], n-1)
		}
	}
	walk("", 5)
	for _, ahead := range []string{`a="`, `a=`, `_!~"`, `a="1",`, `a="\`, `a="a"`, `a=~"1`, `a`} {
		walk(ahead, 4)
	}
	if count < 1000 {
		t.Errorf("only %d texts were read", count)
	}
}

// TestReadEveryByte (P6.1, P6.2): each byte in a value, alone and behind a \,
// and in each place of a text instead of what is there, or beside it.
func TestReadEveryByte(t *testing.T) {
	const right = `ab="c\"d",e!~"f*",g!="\\"`
	for c := range 256 {
		b := string([]byte{byte(c)})
		readsLike(t, `a="`+b+`"`)
		readsLike(t, `a="\`+b+`"`)
		for i := range len(right) {
			readsLike(t, right[:i]+b+right[i+1:])
			readsLike(t, right[:i]+b+right[i:])
		}
		readsLike(t, right+b)
		l := []api.Matcher{{Name: "a", Value: b}, {Name: "a", Op: api.MatchNot, Value: "x" + b + "y"}}
		s, e := Text(l)
		got, f := Read(s)
		if e != api.OK || f != api.OK || !slices.Equal(got, l) {
			t.Errorf("byte %d: %q, %d, %v, %d", c, s, e, got, f)
		}
	}
	for i := range len(right) {
		readsLike(t, right[:i])
		readsLike(t, right[i:])
		readsLike(t, right[:i]+right[i+1:])
	}
}

// TestReadBack (P6.2): random matchers of any bytes are read back from their
// text, which has their form.
func TestReadBack(t *testing.T) {
	r := rand.New(rand.NewSource(4))
	for range 5000 {
		var l []api.Matcher
		for range r.Intn(13) {
			m := randomMatcher(r)
			if m.Op < 2 && r.Intn(2) == 0 {
				b := make([]byte, r.Intn(201))
				for i := range b {
					b[i] = byte(r.Intn(256))
				}
				m.Value = string(b)
			}
			if m.Op >= 2 && pattern.Right(m.Value) != api.OK {
				m.Value = pattern.Quote(m.Value)
			}
			l = append(l, m)
		}
		s, e := Text(l)
		if e != api.OK {
			t.Fatalf("Text(%v): %d", l, e)
		}
		got, e := Read(s)
		if e != api.OK || !slices.Equal(got, l) {
			t.Fatalf("Read(%q) is %v, %d instead of %v", s, got, e, l)
		}
		readsLike(t, s)
	}
}

// TestTextMemory (R4): arguments stay as they are, and results are new.
func TestTextMemory(t *testing.T) {
	l := []api.Matcher{{Name: "a", Value: "b"}, {Name: "c", Op: api.MatchLike, Value: "d"}}
	before := slices.Clone(l)
	s, _ := Text(l)
	Fits(fields("a", "b"), l[0])
	All(fields("a", "b"), l)
	if !slices.Equal(l, before) {
		t.Errorf("the matchers were changed: %v", l)
	}
	got, _ := Read(s)
	got[0] = api.Matcher{Name: "changed"}
	_ = append(got, api.Matcher{Name: "more"})
	if again, e := Read(s); e != api.OK || !slices.Equal(again, before) {
		t.Errorf("Read(%q) is %v, %d", s, again, e)
	}
}

// TestReadLong (T0): long texts are read through to their end, or not at all.
func TestReadLong(t *testing.T) {
	for _, s := range []string{"a", "=", `"`, `\`, ",", `a="`, `a="b",`, `a="\"`, `a=~"(`, `a="\\`, `\"`} {
		for _, ahead := range []string{"", `a="`, `a="b",`} {
			if got, e := Read(ahead + strings.Repeat(s, 1<<18)); e != api.ErrForm || len(got) != 0 {
				t.Errorf("Read of many %q behind %q: %d", s, ahead, e)
			}
		}
	}
}
