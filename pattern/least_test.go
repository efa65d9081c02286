package pattern

import (
	"math/rand"
	"testing"

	"lychgate/api"
)

// least expects this text of Least, twice.
func least(t *testing.T, p, want string, wantOK bool) {
	t.Helper()
	x, e := Read(p)
	if e != api.OK {
		t.Fatalf("Read(%q): %d", p, e)
	}
	for range 2 {
		if s, ok := x.Least(); s != want || ok != wantOK {
			t.Errorf("the least text of %q is %q, %v, not %q, %v", p, s, ok, want, wantOK)
		}
	}
	if wantOK && !x.Fits(want) {
		t.Errorf("the least text %q does not fit %q", want, p)
	}
}

// TestLeast (P5.1): the shortest text, and the first one of several.
func TestLeast(t *testing.T) {
	for p, want := range map[string]string{
		"": "", "a": "a", "abc": "abc", "x*": "", "x+": "x", "x?": "", "()": "", "|": "", "a|": "", "|a": "", "(|)+": "",
		"a|b": "a", "b|a": "a", "b|a|c": "a", "ba|ab": "ab", "ab|b": "b", "b|aa": "b", "aa|b": "b", "abc|ab|bc": "ab", "ba|b[c-z]|a+b": "ab", "(a|b)(c|b)": "ab", "(b|aa)(b|aa)": "bb", "(b|aa)(c|a)": "ba",
		"a+b": "ab", "a*b": "b", "a*b|a": "a", "a?b+": "b", "b*a*": "", "b*a+c?": "a", "(ab)+": "ab", "(ab|c)+": "c", "(ba|ab)+": "ab", "(a*)+b": "b", "(a+)*b": "b", "(a|bc)*d": "d", "((b|a)+|aa)x": "ax",
		".": "\x00", "..": "\x00\x00", "a.": "a\x00", ".a|..": "\x00\x00", ".|a": "\x00", ".+": "\x00", ".*": "",
		"[ba]": "a", "[b-z]": "b", "[zb]": "b", "[-a]": "-", "[a-]": "-", "[^a]": "\x00", "[^\x00]": "\x01", "[^\x00-a]": "b", "[^\x00-\xfe]": "\xff", "[\xff]": "\xff", "[\x80-\xff]": "\x80", "\xff|\x80": "\x80", "\x80|a": "a", "\xff|a": "a", "[\xffz]": "z",
		`\*`: "*", `\.\.`: "..", `\b|\a`: "a", "[*-z]+": "*",
		"[^\x00-\xff]|b": "b", "b|[^\x00-\xff]": "b", "[^\x00-\xff]*": "", "[^\x00-\xff]?": "", "[^\x00-\xff]*b": "b", "a([^\x00-\xff]|b)c": "abc", "(a[^\x00-\xff])*d": "d", "[^\x00-\xff]|": "", "a[^\x00-\xff]|bb": "bb", "([^\x00-\xff]?|a)b": "b", "([^\x00-\xff]+)?": "",
		"a?a?a": "a", "(a|b)*abb": "abb", "x(b|a*c|ab)y": "xby", "x(c|a*b|ab)y": "xby", "(aa|ab|b.)(c|)": "aa", "(b|a)|(a|b)b": "a", "bb|b|aa|a": "a", "aab|ab*b*b": "ab",
		"(c|b)(b|c)(a|.)": "bb\x00", "((((((((b|a))))))))": "a", "(a|b|)(c|d)": "c", "(ab?|b)(bc|c)": "ac", "(a|ab)(bc|c)": "ac",
	} {
		least(t, p, want, true)
	}
}

// TestLeastNone (P5.1): no text fits. (A valid pattern that a text fits has one
// of at most 100 bytes, so there is none whose least text is above 300.)
func TestLeastNone(t *testing.T) {
	for _, p := range []string{
		"[^\x00-\xff]", "[^\x00-\xff]+", "a[^\x00-\xff]", "[^\x00-\xff]a", "a*[^\x00-\xff]", "([^\x00-\xff])", "[^\x00-\xff]|[^\x00-\xff]", "a([^\x00-\xff]|b[^\x00-\xff])c", "([^\x00-\xff]a?)+", "[^\x00-\xff][^\x00-\xff]*", "([^\x00-\xff]|a[^\x00-\xff]+)+", "[^\x00-\x7f\x80-\xff]", "(a|b)*[^\x00-\xff](a|b)*", ".*[^\x00-\xff].*",
	} {
		least(t, p, "", false)
		for _, s := range []string{"", "a", "ab", "b"} {
			fits(t, p, s, false)
		}
	}
}

// TestLeastLong (P5.1): the largest patterns.
func TestLeastLong(t *testing.T) {
	least(t, rep("a", 100), rep("a", 100), true)
	least(t, rep("\xff", 100), rep("\xff", 100), true)
	least(t, rep(".", 100), rep("\x00", 100), true)
	least(t, rep("a+", 50), rep("a", 50), true)
	least(t, rep("a*", 50), "", true)
	least(t, rep("a?", 49)+"b", "b", true)
	least(t, rep("(b|a)", 20), rep("a", 20), true)
	least(t, rep("(b|aa)", 16), rep("b", 16), true)
	least(t, rep("(bb|aa)", 14), rep("aa", 14), true)
	least(t, rep("b|", 49)+"a", "a", true)
	least(t, rep("aa|", 33)+"b", "b", true)
	least(t, rep("a", 50)+"|"+rep("b", 49), rep("b", 49), true)
	least(t, rep("b", 49)+"|"+rep("a", 50), rep("b", 49), true)
	least(t, rep("b", 49)+"|"+rep("a", 49), rep("a", 49), true)
	least(t, "("+rep("(", 7)+"b+|a+"+rep(")+", 7)+")+", "a", true)
	least(t, around(8, rep("x", 84)), rep("x", 84), true)
	least(t, rep("()", 50), "", true)
	least(t, rep("a", 94)+"[^\x00-\xff]", "", false)
}

// TestLeastRandom (P5.1): the first of all texts of some bytes, in the order of
// Least, that fits by package regexp.
func TestLeastRandom(t *testing.T) {
	r := rand.New(rand.NewSource(58))
	signs := "\x00\x01*-.\\^_abc\x80\xff"
	texts := allTexts(3, signs)
	found := map[int]int{}
	for range 3000 {
		p := randomValid(t, r, 40)
		x, e := Read(p)
		if e != api.OK {
			t.Fatalf("Read(%q): %d", p, e)
		}
		got, ok := x.Least()
		m := modelPattern(p)
		if ok && !modelFits(m, got) || !ok && got != "" || len(got) > len(p) {
			t.Fatalf("the least text of %q is %q, %v", p, got, ok)
		}
		for _, s := range texts {
			if ok && (len(s) > len(got) || len(s) == len(got) && s >= got) {
				break
			}
			if modelFits(m, s) {
				t.Fatalf("the least text of %q is %q, %v, not %q", p, got, ok, s)
			}
		}
		found[len(got)]++
	}
	for n := range 4 {
		if found[n] < 50 {
			t.Errorf("%d least texts of %d bytes: too few to tell", found[n], n)
		}
	}
}

// TestLeastInTurn (P5.1): of a sequence, the least texts one after the other;
// of an alternation, the lesser one.
func TestLeastInTurn(t *testing.T) {
	r := rand.New(rand.NewSource(59))
	for range 5000 {
		p, q := randomValid(t, r, 47), randomValid(t, r, 47)
		x, _ := Read(p)
		y, _ := Read(q)
		a, aok := x.Least()
		b, bok := y.Least()
		if aok && bok {
			least(t, "("+p+")("+q+")", a+b, true)
		} else {
			least(t, "("+p+")("+q+")", "", false)
		}
		either := a
		if !aok || bok && (len(b) < len(a) || len(b) == len(a) && b < a) {
			either = b
		}
		least(t, p+"|"+q, either, aok || bok)
		least(t, "("+p+")+", a, aok)
		least(t, "("+p+")*", "", true)
		least(t, "("+p+")?", "", true)
	}
}
