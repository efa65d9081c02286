package pattern

import (
	"math/rand"
	"strings"
	"testing"

	"lychgate/api"
)

var rep = strings.Repeat

// around is n parentheses around s.
func around(n int, s string) string { return rep("(", n) + s + rep(")", n) }

// right expects this of Right, of Read, and, for what is not valid, of Fits.
func right(t *testing.T, p string, want api.Errno) {
	t.Helper()
	if e := Right(p); e != want {
		t.Errorf("Right(%q) is %d, not %d", p, e, want)
	}
	x, e := Read(p)
	if e != want || (x != nil) != (want == api.OK) {
		t.Errorf("Read(%q) is %v, %d, not %d", p, x, e, want)
	}
	if x != nil && x.Text() != p {
		t.Errorf("Read(%q) has the text %q", p, x.Text())
	}
	if want == api.OK {
		return
	}
	for _, s := range []string{"", "a", "b", "(", "*", "[", "]", "\\", p} {
		if Fits(p, s) {
			t.Errorf("Fits(%q, %q), though the pattern is not valid", p, s)
		}
	}
}

// TestRightOfValid (P5.1).
func TestRightOfValid(t *testing.T) {
	for _, p := range []string{
		"", "a", "abc", "a|b[0-9]*", "()", "()()", "(())", "|", "||", "a|", "|a", "a||b", "(|)", "(a|)", "(|a)", "(||)",
		"a*", "a+", "a?", ".*", ".", "..", "()*", "()+", "()?", "(a*)*", "(a+)+", "(a?)?", "(a*)+", "((a*)+)?", "(|)*", "[a]*", "[a]+", "[a]?", `\**`, `\a+`, `\\?`,
		"a*b+c?", "a*|b+|c?", "(a)*(b)+(c)?", "^", "$", "-", "^a$", "{", "}", "a{2}", "a-b", "^*", "-+", "{?", " ", "\n", "\x00", "\x7f", "\x80", "\xff", "é", "\"", "/", ",",
		"[a]", "[ab]", "[a-c]", "[a-a]", "[a-]", "[-a]", "[-]", "[--]", "[---]", "[+--]", "[a-b-c]", "[a-b-]", "[a-b--c]", "[^a]", "[^a-c]", "[^^]", "[a^]", "[^-]", "[^-a]", "[^a-]", "[^--]", `[\^a]`, "[^^-a]",
		`[\]]`, `[^\]]`, `[\\]`, `[\[]`, `[\-]`, `[a\-b]`, `[\a-\c]`, `[a-\c]`, `[\a-c]`, `[A-\]]`, `[\\-a]`, `[A-\\]`, `[a\]b]`, `[c\-a]`,
		"[[]", "[[-a]", "[*+?|().]", "[(]", "[)]", "[|]", "[((((((((((]", "[*]*", "[[[[]", "[\x00-\xff]", "[^\x00-\xff]", "[\xff]", "[\x80-\xff]", "[a\xffb]", "[\x00]",
		`\a`, `\\`, `\*`, `\(`, `\)`, `\[`, `\]`, `\|`, `\.`, `\-`, `\^`, "\\\x00", "\\\xff", `\(\(\(\(\(\(\(\(\(\(`, `\[a`, `\\\\`, `a\|b`,
	} {
		right(t, p, api.OK)
		if modelRight(p) != api.OK {
			t.Errorf("the model of %q", p)
		}
	}
}

// TestRightOfNoForm (P5.1).
func TestRightOfNoForm(t *testing.T) {
	for _, p := range []string{
		"*", "+", "?", "*a", "+a", "?a", "a**", "a*+", "a*?", "a+*", "a++", "a+?", "a?*", "a?+", "a??", "a***", "a|*", "a|+b", "a|?", "|*", "||+", "(*", "(*)", "(+)", "(?)", "(?a)", "(?:a)", "a(*b)", "(a|*)", "(a**)", "()**", "[a]**", "[a]+?", `\***`, ".+?", "(a)*?",
		"(", ")", "a(", "a)", "(a", "a)b", "(()", "())", ")(", "(a))", "((a)", "a|(", "a|)", "(a|b", "(|", "|)", "()(", "(((((((", `(\)`, "([)])" + "(", "(a)b)", "(*)(",
		"[", "a[", "[a", "[^", "[^a", "[a-", "[a-b", "[-", "[--", `[\`, `[\]`, `[a\]`, `[a-\`, `[a-\]`, `[^\]`, "[[", "[(])[", "([)", "([a)", "a|[", "[a|b",
		"[]", "[^]", "[]a", "[]]", "[]a]", "[^]]", "[^]a]", "a[]", "([])", "[]*", "[]|a", "a|[]",
		"]", "a]", "]a", "[a]]", "a|]", "(])", "]]", `\\]`, "]*",
		"[b-a]", "[a--]", "[a-b-c-a]", "[^b-a]", "[ab-a]", "[\xff-\x00]", "[\x01-\x00]", "[\x80-\x7f]", `[a-\]]`, `[a-\\]`, `[a-\-]`, `[\b-\a]`, `[\a--]`, "[z-a]*", "[^c-a-b]", "[--+]", "[a-b--+]", "([b-a])", "a|[b-a]", "[b-a",
		`\`, `a\`, `a|\`, `(\`, `\\\`, `a*\`, `[a]\`, `()\`, "\xff\\",
	} {
		right(t, p, api.ErrForm)
		if modelRight(p) != api.ErrForm {
			t.Errorf("the model of %q", p)
		}
	}
}

// TestRightLength (P5.1): 100 bytes are the most, whatever they are; with more,
// ErrLong comes ahead of every other error.
func TestRightLength(t *testing.T) {
	for _, p := range []string{
		rep("a", 100), rep("a", 99), rep("\xff", 100), rep("é", 50), rep("|", 100), rep("a*", 50), rep("()", 50), rep(`\a`, 50), "[" + rep("a", 98) + "]", "[^" + rep("a-b", 32) + "a]", around(8, rep("x", 84)), rep("a|", 50), rep(".", 100), rep("(a)*", 25), rep("[a]?", 25), "[" + rep("-", 98) + "]",
	} {
		if n := len(p); n != 99 && n != 100 {
			t.Fatalf("%q has %d bytes", p, n)
		}
		right(t, p, api.OK)
		for _, more := range []string{"a", "|", "*", "(", ")", "[", "]", `\`, "\xff", "aa"} {
			if len(p) == 100 {
				right(t, p+more, api.ErrLong)
				right(t, more+p, api.ErrLong)
			}
		}
	}
	for _, p := range []string{rep("a", 99) + "(", rep("a", 98) + "**", ")" + rep("a", 99), rep("*", 100), rep("a", 99) + `\`, rep(`\`, 99), rep("[", 100), rep("]", 100), "[" + rep("a", 99), rep(")", 100)} {
		right(t, p, api.ErrForm)
		right(t, p+rep("a", 101-len(p)), api.ErrLong)
	}
	right(t, rep("(", 100), api.ErrDeep)
	right(t, rep("(", 101), api.ErrLong)
	right(t, rep("*", 101), api.ErrLong)
	right(t, rep("é", 51), api.ErrLong)
	right(t, rep("a", 1<<20), api.ErrLong)
	right(t, rep("((a*)", 1<<16), api.ErrLong)
}

// TestRightDepth (P5.1): eight parentheses inside one another, not nine.
func TestRightDepth(t *testing.T) {
	for n := range 9 {
		for _, inner := range []string{"", "a", "a|b", "a*", "[(]", `\(`, "[()]+", `\)|\(`, `[\](]`} {
			right(t, around(n, inner), api.OK)
			right(t, "x"+around(n, inner)+"y*", api.OK)
			right(t, around(n, inner)+around(n, inner), api.OK)
			right(t, around(n, inner)+"|"+around(n, "b")+"?|"+around(n, ""), api.OK)
		}
	}
	right(t, around(7, "(a)(b)|(c)*"), api.OK)
	right(t, rep("()", 50), api.OK)
	right(t, rep("(a", 8)+rep(")*", 8), api.OK)
	right(t, rep("(a|", 8)+rep("b)+", 8), api.OK)
	right(t, around(8, "[((((((((((]"+rep(`\(`, 10)), api.OK)
	for n := 9; n <= 50; n++ {
		right(t, around(n, ""), api.ErrDeep)
		right(t, "a|b*"+rep("(", n), api.ErrDeep)
		right(t, rep("(a|", min(n, 33)), api.ErrDeep)
	}
	right(t, around(7, "()(())"), api.ErrDeep)
	right(t, around(8, "a|b()"), api.ErrDeep)
	right(t, around(8, "a")+around(9, "a"), api.ErrDeep)
	right(t, "((((((((", api.ErrForm)
	right(t, "((((((((a", api.ErrForm)
	right(t, around(8, "")+")", api.ErrForm)
	right(t, rep("(", 8)+rep(")", 7), api.ErrForm)
}

// TestRightFirstError (P5.1): the first error from left to right, whichever
// others follow.
func TestRightFirstError(t *testing.T) {
	deep := rep("(", 9)
	for _, p := range []string{"*", "+", "?", "a**", "a|*", "(*", "()+?", ")", "a)", "())", "]", "[a]]", "[]", "[^]", "[b-a]", "[a--]", "([b-a]"} {
		right(t, p+deep, api.ErrForm)
		right(t, "(a)|b*|"+p+deep, api.ErrForm)
		right(t, deep+p, api.ErrDeep)
		right(t, around(9, p), api.ErrDeep)
	}
	// These are not closed: what follows is inside the class, or is what is escaped.
	right(t, "["+deep, api.ErrForm)
	right(t, "[^"+deep, api.ErrForm)
	right(t, "[b-"+deep, api.ErrForm)
	right(t, `[a\]`+deep, api.ErrForm)
	right(t, `\`+deep, api.ErrForm)
	right(t, `\`+deep+"(", api.ErrDeep)
	right(t, "[a]"+deep, api.ErrDeep)
	right(t, "["+deep+"]", api.OK)
	// What is never closed is an error at the end only.
	right(t, "(a"+deep, api.ErrDeep)
	right(t, "((((((((*(", api.ErrForm)
	right(t, "((((((((a*(", api.ErrDeep)
	right(t, "((((((((a**(", api.ErrForm)
	right(t, "(((((((()(", api.ErrForm)
	right(t, "(((((((()((", api.ErrDeep)
	right(t, "((((((((](", api.ErrForm)
	right(t, "((((((((|(", api.ErrDeep)
	right(t, "((((((((|*(", api.ErrForm)
	right(t, deep+`\`, api.ErrDeep)
	right(t, deep+"[", api.ErrDeep)
	right(t, deep+rep(")", 20), api.ErrDeep)
	right(t, rep("(", 8)+rep(")", 9)+deep, api.ErrForm)
}

// TestRightOfEveryByte (P5.1): alone, escaped, repeated, and in classes.
func TestRightOfEveryByte(t *testing.T) {
	form := func(bad bool) api.Errno {
		if bad {
			return api.ErrForm
		}
		return api.OK
	}
	for b := range 256 {
		c := string([]byte{byte(b)})
		right(t, c, form(strings.Contains(`*+?()[]\`, c)))
		right(t, "a"+c, form(strings.Contains(`()[]\`, c)))
		right(t, c+"*", form(strings.Contains(`*+?()[]|`, c)))
		right(t, `\`+c, api.OK)
		right(t, `\`+c+"+", api.OK)
		right(t, `(\`+c+")", api.OK)
		right(t, "["+c+"]", form(strings.Contains(`]^\`, c)))
		right(t, "[^"+c+"]", form(strings.Contains(`]\`, c)))
		right(t, `[\`+c+"]", api.OK)
		right(t, `[^\`+c+"]", api.OK)
		right(t, "["+c+"-"+c+"]", form(strings.Contains(`]\`, c)))
		right(t, `[\`+c+`-\`+c+"]", api.OK)
		for d := range 256 {
			p := `[\` + c + `-\` + string([]byte{byte(d)}) + "]"
			if e := Right(p); e != form(d < b) {
				t.Errorf("Right(%q) is %d", p, e)
			}
		}
	}
}

// TestRightOfEveryShortPattern (P5.1): all patterns of some signs.
func TestRightOfEveryShortPattern(t *testing.T) {
	for _, p := range allTexts(5, `ab|()*?[]^-\.`) {
		if e, want := Right(p), modelRight(p); e != want {
			t.Fatalf("Right(%q) is %d, not %d", p, e, want)
		}
	}
	for _, p := range allTexts(6, `ab]^-\`) {
		p = "[" + p
		if e, want := Right(p), modelRight(p); e != want {
			t.Fatalf("Right(%q) is %d, not %d", p, e, want)
		}
	}
}

// TestRightOfMangled (P5.1): valid patterns with random changes, and random
// bytes.
func TestRightOfMangled(t *testing.T) {
	r := rand.New(rand.NewSource(50))
	seen := map[api.Errno]int{}
	for range 50000 {
		p := around(r.Intn(9), randomPattern(r, r.Intn(3)))
		for range r.Intn(4) {
			at := r.Intn(len(p) + 1)
			end := min(len(p), at+r.Intn(3))
			p = p[:at] + []string{"", "(", ")", "((((", "[", "]", "[^", "-", "|", "*", "+", "?", `\`, ".", "a", "\xff", rep("a|", 40)}[r.Intn(17)] + p[end:]
		}
		e := Right(p)
		if want := modelRight(p); e != want {
			t.Fatalf("Right(%q) is %d, not %d", p, e, want)
		}
		if x, e2 := Read(p); e2 != e || (x == nil) != (e != api.OK) {
			t.Fatalf("Read(%q) is %v, %d", p, x, e2)
		}
		seen[e]++
	}
	for range 50000 {
		b := make([]byte, r.Intn(30))
		for i := range b {
			b[i] = `((()))[[]]**+?|\.-^ab`[r.Intn(21)]
			if r.Intn(8) == 0 {
				b[i] = byte(r.Intn(256))
			}
		}
		e := Right(string(b))
		if want := modelRight(string(b)); e != want {
			t.Fatalf("Right(%q) is %d, not %d", b, e, want)
		}
		seen[e]++
	}
	for _, e := range []api.Errno{api.OK, api.ErrForm, api.ErrDeep, api.ErrLong} {
		if seen[e] < 300 {
			t.Errorf("%d patterns with error %d: too few to tell", seen[e], e)
		}
	}
}
