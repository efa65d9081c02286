package pattern

import (
	"math/rand"
	"strings"
	"testing"

	"lychgate/api"
)

// fits expects this of both functions that tell it.
func fits(t *testing.T, p, s string, want bool) {
	t.Helper()
	if Fits(p, s) != want {
		t.Errorf("Fits(%q, %q) is %v", p, s, !want)
	}
	x, e := Read(p)
	if e != api.OK || x.Fits(s) != want || x.Fits(s) != want {
		t.Errorf("Read(%q) is an error %d, or its Fits(%q) is not %v", p, e, s, want)
	}
}

// TestFits (P5.1): ordinary patterns, and empty ones.
func TestFits(t *testing.T) {
	for _, c := range []struct {
		p       string
		yes, no []string
	}{
		{"", []string{""}, []string{"a", "\x00", " "}},
		{"a", []string{"a"}, []string{"", "b", "aa", "A", "ab", "ba"}},
		{"abc", []string{"abc"}, []string{"", "ab", "bc", "abcd", "xabc", "acb"}},
		{"a|b[0-9]*", []string{"a", "b", "b7", "b12", "b0123456789"}, []string{"", "ab", "a7", "b1a", "bb", "7", "a|b"}},
		{"a|b|cd", []string{"a", "b", "cd"}, []string{"", "c", "d", "acd", "bcd", "ab", "abd"}},
		{"ab|cd", []string{"ab", "cd"}, []string{"abd", "acd", "abcd", "a", "d", ""}},
		{"|", []string{""}, []string{"|", "a"}},
		{"||a|", []string{"", "a"}, []string{"|", "aa"}},
		{"a|", []string{"a", ""}, []string{"a|", "aa"}},
		{"|a", []string{"a", ""}, []string{"|a", "aa"}},
		{"()", []string{""}, []string{"(", "()", "a"}},
		{"a()b", []string{"ab"}, []string{"a", "b", "a()b"}},
		{"(a|)b", []string{"b", "ab"}, []string{"a", "", "aab"}},
		{"(|a)(|b)", []string{"", "a", "b", "ab"}, []string{"ba", "aa", "bb"}},
		{"(ab)+", []string{"ab", "abab", "ababab"}, []string{"", "aba", "a", "abb", "aab", "ba"}},
		{"ab+", []string{"ab", "abb"}, []string{"a", "abab", ""}},
		{"ab*", []string{"a", "ab", "abbb"}, []string{"", "abab", "b", "aab"}},
		{"ab?", []string{"a", "ab"}, []string{"", "abb", "b", "abab"}},
		{"(ab)?", []string{"", "ab"}, []string{"a", "b", "abab"}},
		{"(ab)*", []string{"", "ab", "abab"}, []string{"a", "b", "aba", "aab"}},
		{"(a|b)*c", []string{"c", "ac", "bc", "abbac"}, []string{"", "a", "ab", "cc", "acb"}},
		{"(a|b)+", []string{"a", "b", "ab", "baab"}, []string{"", "c", "abc"}},
		{"a*b*", []string{"", "a", "b", "aab", "abb"}, []string{"ba", "aba"}},
		{"a+b+", []string{"ab", "aab", "abb"}, []string{"", "a", "b", "ba"}},
		{"a?b?", []string{"", "a", "b", "ab"}, []string{"ba", "aa", "bb", "aab"}},
		{"a*|b", []string{"", "a", "aa", "b"}, []string{"ab", "bb"}},
		{"a*a", []string{"a", "aa", "aaa"}, []string{"", "b"}},
		{"a*aa?", []string{"a", "aa", "aaaa"}, []string{""}},
		{"(a|ab)(c|bcd)", []string{"ac", "abc", "abcd", "abbcd"}, []string{"a", "ab", "abbc"}},
		{"a.c?", []string{"ab", "abc", "a.", "acc"}, []string{"a", "abcd", "ac?", "bbc"}},
		{"..", []string{"ab", "..", "\x00\xff", "\n\n"}, []string{"", "a", "abc"}},
		{".*", []string{"", "a", "\x00\n\r\xff\x80", "a.*b"}, nil},
		{".+", []string{"a", "\n", "\xff\xff"}, []string{""}},
		{".*b.*", []string{"b", "abc", "\nb\n", "bb"}, []string{"", "ac"}},
		{"^a$", []string{"^a$"}, []string{"a"}},
		{"a{2}", []string{"a{2}"}, []string{"aa"}},
		{"a-c", []string{"a-c"}, []string{"b", "a", "c"}},
		{"-*", []string{"", "-", "--"}, []string{"-*", "a"}},
		{"a b\t\n", []string{"a b\t\n"}, []string{"ab", "a b\t"}},
		{`\*\\`, []string{`*\`}, []string{"*", `\*\\`, `\`}},
		{`\.\.`, []string{".."}, []string{"ab", `\.\.`}},
		{`\n\d`, []string{"nd"}, []string{"\n1", "\nd"}},
		{`\(a\)*`, []string{"(a", "(a)", "(a))"}, []string{"", "a", "(a)(a)"}},
		{`a\|b`, []string{"a|b"}, []string{"a", "b"}},
		{`\a+`, []string{"a", "aa"}, []string{"", `\a`, "\a"}},
	} {
		for _, s := range c.yes {
			fits(t, c.p, s, true)
		}
		for _, s := range c.no {
			fits(t, c.p, s, false)
		}
	}
}

// TestFitsRepeatedEmpty (P5.1): repetitions of what matches the empty text end,
// and match what they should.
func TestFitsRepeatedEmpty(t *testing.T) {
	for _, p := range []string{"()*", "()+", "()?", "(|)*", "(()*)*", "((()+)*)?", "(()())*", "((|)|(|))+"} {
		fits(t, p, "", true)
		fits(t, p, "a", false)
		fits(t, p+"a", "a", true)
		fits(t, "a"+p, "a", true)
		fits(t, "a"+p, "", false)
	}
	for _, p := range []string{"(a*)*", "(a*)+", "(a+)*", "(a?)*", "(a?)+", "(a|)*", "(|a)+", "((a*)*)*", "((a?)*|b?)*", "(a*b*)*", "(a?b?)+", "((a|)(|b))*", "(()a)*", "(a*|()*)+", "((a*)?)+"} {
		for _, s := range []string{"", "a", "aa", "aaaa"} {
			fits(t, p, s, true)
			fits(t, p+"c", s+"c", true)
			fits(t, p, s+"c", false)
		}
		b := strings.Contains(p, "b")
		fits(t, p, "abba", b)
		fits(t, p, "b", b)
	}
	fits(t, "(a+)+", "", false)
	fits(t, "(a+)?", "", true)
	fits(t, "(a*)?", "aaa", true)
	fits(t, "(a?)?", "aa", false)
	fits(t, "(a?)?b", "b", true)
	fits(t, around(8, "a*")+"*", "aaaa", true)
	fits(t, "((((((((a*)*)*)*)*)*)*)*)*", "aaaa", true)
	fits(t, "((((((((a*)+)?)*)+)?)*)+)?", "b", false)
}

// TestFitsClass (P5.1): which bytes are in a class.
func TestFitsClass(t *testing.T) {
	span := func(from, to int) string {
		s := ""
		for c := from; c <= to; c++ {
			s += string([]byte{byte(c)})
		}
		return s
	}
	all := span(0, 255)
	for p, in := range map[string]string{
		"[a]": "a", "[abc]": "abc", "[cba]": "abc", "[aa]": "a", "[a-c]": "abc", "[a-a]": "a", "[a-bd-e]": "abde", "[a-cb-d]": "abcd",
		"[a-]": "a-", "[-a]": "a-", "[-]": "-", "[--]": "-", "[---]": "-", "[----]": "-", "[+--]": "+,-", "[--/]": "-./",
		"[a-b-c]": "ab-c", "[a-b-]": "ab-", "[a-b--]": "ab-", "[a-b--a]": "ab" + span('-', 'a'), "[a-b-c-d]": "ab-cd", "[a-c-b]": "abc-", "[-a-c]": "-abc", "[+---]": "+,-", "[+--a]": "+,-a", "[+--a-c]": "+,-abc",
		"[^a]": strings.ReplaceAll(all, "a", ""), "[^a-c]": strings.ReplaceAll(all, "abc", ""), "[^^]": strings.ReplaceAll(all, "^", ""), "[a^]": "a^", "[a^b]": "ab^", `[\^a]`: "a^", "[^-]": strings.ReplaceAll(all, "-", ""), "[^-a]": strings.ReplaceAll(strings.ReplaceAll(all, "-", ""), "a", ""), "[^a-]": strings.ReplaceAll(strings.ReplaceAll(all, "-", ""), "a", ""), "[^^-a]": strings.ReplaceAll(all, "^_`a", ""), "[^\\^]": strings.ReplaceAll(all, "^", ""), "[^--/]": strings.ReplaceAll(all, "-./", ""),
		`[\]]`: "]", `[^\]]`: strings.ReplaceAll(all, "]", ""), `[\\]`: `\`, `[\-]`: "-", `[a\-c]`: "a-c", `[c\-a]`: "a-c", `[\a-\c]`: "abc", `[a-\c]`: "abc", `[\a-c]`: "abc", `[Z-\]]`: `Z[\]`, `[\[-\]]`: `[\]`, `[\\-a]`: span('\\', 'a'), `[\--/]`: "-./", `[+-\-]`: "+,-", `[+\--]`: "+-", `[\n\d]`: "nd", `[a-b\-c]`: "ab-c", `[a\]b]`: "a]b", `[Z-\\]`: `Z[\`,
		"[*+?|().[]": "*+?|().[", "[.]": ".", "[[]": "[", "[(]": "(", "[[-^]": `[\]^`, "[a.b]": "a.b", "[$]": "$", "[0-9a-f]": "0123456789abcdef", "[^0-9]": strings.ReplaceAll(all, "0123456789", ""),
		"[\x00]": "\x00", "[\xff]": "\xff", "[\x80-\xff]": span(128, 255), "[\x00-\x7f]": span(0, 127), "[\x7f-\x81]": "\x7f\x80\x81", "[^\x80-\xff]": span(0, 127), "[é]": "\xc3\xa9", "[^\x00]": span(1, 255), "[^\xff]": span(0, 254), "[\x00-\xff]": all, "[^\x00-\xff]": "", "[^\x00-\x7f\x80-\xff]": "", "[\x00-\xfe]": span(0, 254), ".": all, "[.-]": ".-", "[\x00-\x00]": "\x00", "[\xff-\xff]": "\xff", "[\xfe-\xff]": "\xfe\xff", "[^a-\xff]": span(0, '`'),
	} {
		x, e := Read(p)
		if e != api.OK {
			t.Errorf("Read(%q): %d", p, e)
			continue
		}
		for c := range 256 {
			s := string([]byte{byte(c)})
			if want := strings.Contains(in, s); x.Fits(s) != want || Fits(p, s) != want {
				t.Errorf("of %q, Fits(%q) is not %v", p, s, want)
			}
			if x.Fits(s + s) {
				t.Errorf("%q fits %q", s+s, p)
			}
		}
		if x.Fits("") {
			t.Errorf("the empty text fits %q", p)
		}
	}
	fits(t, "[^a]*", "bcd\x00\xff", true)
	fits(t, "[^a]*", "bcad", false)
	fits(t, "[^\x00-\xff]*", "", true)
	fits(t, "[^\x00-\xff]*", "a", false)
	fits(t, "[^\x00-\xff]?a", "a", true)
	fits(t, "[^\x00-\xff]|a", "a", true)
	fits(t, "[^\x00-\xff]+|a", "", false)
	fits(t, "[a-c][^a-c]", "ad", true)
	fits(t, "[a-c][^a-c]", "ab", false)
	fits(t, "[-a]|[b-]", "-", true)
}

// TestFitsEveryByte (P5.1): as itself, escaped, and of any.
func TestFitsEveryByte(t *testing.T) {
	for b := range 256 {
		c := string([]byte{byte(b)})
		fits(t, ".", c, true)
		for d := range 256 {
			s := string([]byte{byte(d)})
			if Fits(`\`+c, s) != (b == d) || Fits(`[\`+c+"]", s) != (b == d) || Fits(`[^\`+c+"]", s) != (b != d) {
				t.Errorf("escaped byte %d and text %q", b, s)
			}
			if !strings.Contains(`*+?|()[]\.`, c) && Fits(c, s) != (b == d) {
				t.Errorf("byte %d and text %q", b, s)
			}
		}
		fits(t, `\`+c+"*", c+c+c, true)
		fits(t, `x\`+c, "x"+c, true)
		fits(t, `\`+c, `\`+c, false)
	}
}

// TestFitsBytes (P5.1): what is matched are bytes, not code points.
func TestFitsBytes(t *testing.T) {
	fits(t, "é", "é", true)
	fits(t, ".", "é", false)
	fits(t, "..", "é", true)
	fits(t, "é?", "\xc3", true)
	fits(t, "é?", "\xc3\xa9", true)
	fits(t, "é?", "", false)
	fits(t, "é+", "\xc3\xa9\xa9", true)
	fits(t, "é+", "éé", false)
	fits(t, "(é)+", "éé", true)
	fits(t, "[é]", "é", false)
	fits(t, "[é][é]", "é", true)
	fits(t, "[^a]", "é", false)
	fits(t, `\é`, "é", true)
	fits(t, "\xff\xfe*", "\xff\xfe\xfe", true)
	fits(t, "\xff", "ÿ", false)
	fits(t, "a\x00b", "a\x00b", true)
	fits(t, "a\x00b", "a", false)
}

// TestFitsLong (P5.1, T0): the largest patterns, and long texts, without ways
// that multiply.
func TestFitsLong(t *testing.T) {
	a, ab := rep("a", 200000), rep("ab", 100000)
	fits(t, "a*", a, true)
	fits(t, "a*", a+"b", false)
	fits(t, "(a*)*b", a, false)
	fits(t, "(a*)*b", a+"b", true)
	fits(t, "((a|a)|(a|a))*(a|a)*", a, true)
	fits(t, "(a|aa)+c", a, false)
	fits(t, "(a+b?)*", ab, true)
	fits(t, "(a+b)*", ab+"b", false)
	fits(t, "b.*", a, false)
	fits(t, rep("a?", 30)+rep("a", 30), a[:30], true)
	fits(t, rep("a?", 30)+rep("a", 30), a[:60], true)
	fits(t, rep("a?", 30)+rep("a", 30), a[:29], false)
	fits(t, rep("a?", 30)+rep("a", 30), a[:61], false)
	fits(t, "("+rep("a?", 48)+")*", a[:20000], true)
	fits(t, rep("(", 8)+"a*"+rep(")*", 8), a[:20000]+"b", false)
	fits(t, rep("a", 100), a[:100], true)
	fits(t, rep("a", 100), a[:99], false)
	fits(t, rep("a", 100), a[:101], false)
	fits(t, rep("a|", 50), "a", true)
	fits(t, rep("a|", 49)+"b", "b", true)
	fits(t, rep("|", 100), "", true)
	fits(t, rep("|", 99)+"z", "z", true)
	fits(t, rep(".*", 50), a[:2000], true)
	fits(t, rep("()", 50), "", true)
	fits(t, rep("a*", 49)+"b", a[:2000]+"c", false)
	if Fits(rep("a", 101), rep("a", 101)) || Fits(around(9, "a"), "a") || Fits("(a", "a") || Fits("a)", "a") || Fits("[]", "") || Fits("*", "") || Fits(`\`, "") {
		t.Error("a text fits a pattern that is not valid")
	}
}

// TestFitsEveryShortPattern (P5.1): all valid patterns of some signs with all
// texts of some signs, held against package regexp.
func TestFitsEveryShortPattern(t *testing.T) {
	texts := allTexts(3, "ab-")
	valid := 0
	for _, p := range allTexts(5, `ab|()*+?`) {
		if modelRight(p) == api.OK {
			valid++
			sameAsModel(t, p, texts)
		}
	}
	for _, p := range allTexts(4, `ab-^\.+`) {
		for _, p := range []string{"[" + p + "]", "[" + p + "]?a", "[" + p + "][^a]*"} {
			if modelRight(p) == api.OK {
				valid++
				sameAsModel(t, p, texts)
			}
		}
	}
	if valid < 5000 {
		t.Errorf("only %d patterns", valid)
	}
}

func sameAsModel(t *testing.T, p string, texts []string) {
	t.Helper()
	x, e := Read(p)
	if e != api.OK {
		t.Fatalf("Read(%q): %d", p, e)
	}
	m := modelPattern(p)
	for _, s := range texts {
		if want := modelFits(m, s); x.Fits(s) != want || Fits(p, s) != want {
			t.Fatalf("Fits(%q, %q) is not %v", p, s, want)
		}
	}
}

// TestFitsRandom (P5.1): random patterns and texts, held against package
// regexp.
func TestFitsRandom(t *testing.T) {
	r := rand.New(rand.NewSource(51))
	short := allTexts(3, "abc")
	yes, no := 0, 0
	for range 1500 {
		p := randomValid(t, r, 100)
		texts := append([]string{p, Quote(p)}, short...)
		for range 60 {
			texts = append(texts, randomTextOf(r, 12))
		}
		sameAsModel(t, p, texts)
		for _, s := range texts {
			if Fits(p, s) {
				yes++
			} else {
				no++
			}
		}
	}
	if yes < 5000 || no < 5000 {
		t.Errorf("%d texts fit and %d do not: too few to tell", yes, no)
	}
}

// TestText (P5.1): the pattern as it was.
func TestText(t *testing.T) {
	r := rand.New(rand.NewSource(52))
	for range 2000 {
		p := randomValid(t, r, 100)
		x, e := Read(p)
		if e != api.OK || x.Text() != p {
			t.Fatalf("Read(%q) has the text %q, %d", p, x.Text(), e)
		}
		x.Fits("a")
		x.Least()
		if x.Text() != p {
			t.Fatalf("the text %q has become %q", p, x.Text())
		}
	}
}

// TestNil (P5.1, R7).
func TestNil(t *testing.T) {
	var x *Pattern
	for _, s := range []string{"", "a", rep("a", 1000)} {
		if x.Fits(s) {
			t.Errorf("%.10q fits a nil pattern", s)
		}
	}
	if s, ok := x.Least(); s != "" || ok {
		t.Errorf("a nil pattern has the least text %q, %v", s, ok)
	}
	if s := x.Text(); s != "" {
		t.Errorf("a nil pattern has the text %q", s)
	}
}

// TestZero (T0): a Pattern that Read did not make is the empty one.
func TestZero(t *testing.T) {
	x := &Pattern{}
	if s, ok := x.Least(); s != "" || !ok || x.Text() != "" || !x.Fits("") || x.Fits("a") {
		t.Error("a zero pattern is not the empty one")
	}
}

// TestPatternsAreApart (R3, R6): patterns that are used in turn tell the same
// as ones that are new.
func TestPatternsAreApart(t *testing.T) {
	r := rand.New(rand.NewSource(53))
	var texts []string
	var kept []*Pattern
	for range 40 {
		p := randomValid(t, r, 60)
		x, _ := Read(p)
		texts, kept = append(texts, p), append(kept, x)
	}
	for range 20000 {
		i := r.Intn(len(kept))
		s := randomTextOf(r, 6)
		if kept[i].Fits(s) != Fits(texts[i], s) {
			t.Fatalf("Fits(%q, %q) is not what it was", texts[i], s)
		}
		if r.Intn(10) == 0 {
			x, _ := Read(texts[i])
			a, aok := kept[i].Least()
			b, bok := x.Least()
			if a != b || aok != bok {
				t.Fatalf("the least text of %q is not what it was", texts[i])
			}
		}
	}
}

// TestEither (P5.2): an alternation matches what either side matches.
func TestEither(t *testing.T) {
	r := rand.New(rand.NewSource(54))
	for range 1200 {
		p, q := randomValid(t, r, 40), randomValid(t, r, 40)
		for _, s := range append(allTexts(2, "abc"), randomTextOf(r, 8), randomTextOf(r, 8)) {
			want := Fits(p, s) || Fits(q, s)
			for _, both := range []string{p + "|" + q, q + "|" + p, "(" + p + "|" + q + ")", "(" + p + ")|(" + q + ")"} {
				if Fits(both, s) != want {
					t.Fatalf("Fits(%q, %q) is not %v", both, s, want)
				}
			}
		}
	}
}

// TestInTurn (P5.2): a sequence matches what its parts match, one after the
// other.
func TestInTurn(t *testing.T) {
	r := rand.New(rand.NewSource(55))
	for range 1200 {
		p, q := randomValid(t, r, 40), randomValid(t, r, 40)
		bare := randomSequence(r, 2)
		for _, s := range append(allTexts(2, "abc"), randomTextOf(r, 8), randomTextOf(r, 8)) {
			if want := splits(p, q, s); Fits("("+p+")("+q+")", s) != want {
				t.Fatalf("Fits of %q and then %q, %q is not %v", p, q, s, want)
			}
			if want := splits(bare, q, s); len(bare) <= 50 && Fits(bare+"("+q+")", s) != want {
				t.Fatalf("Fits of %q and then %q, %q is not %v", bare, q, s, want)
			}
		}
	}
}

// splits reports whether s is a text that fits p and one that fits q.
func splits(p, q, s string) bool {
	for i := range len(s) + 1 {
		if Fits(p, s[:i]) && Fits(q, s[i:]) {
			return true
		}
	}
	return false
}

// TestRepeated (P5.2): +, * and ? by the sequences and alternations that they
// stand for.
func TestRepeated(t *testing.T) {
	r := rand.New(rand.NewSource(56))
	for range 1500 {
		p := "(" + randomValid(t, r, 20) + ")"
		for _, s := range append(allTexts(2, "abc"), randomTextOf(r, 5)) {
			once := Fits(p, s)
			many := once // as many as there are bytes is enough
			for n := 2; n <= len(s) && n*len(p) <= 100; n++ {
				many = many || Fits(rep(p, n), s)
			}
			if len(s)*len(p) > 100 {
				continue
			}
			if Fits(p+"?", s) != (once || s == "") || Fits(p+"+", s) != many || Fits(p+"*", s) != (many || s == "") {
				t.Fatalf("repetitions of %q and %q", p, s)
			}
		}
	}
}

// TestQuoteText (P5.1): a \ ahead of the ten bytes, nothing else.
func TestQuoteText(t *testing.T) {
	for s, want := range map[string]string{
		"": "", "a": "a", "a.b": `a\.b`, `*+?|()[]\.`: `\*\+\?\|\(\)\[\]\\\.`, "^$-{}": "^$-{}", "..": `\.\.`, `\\`: `\\\\`, `\.`: `\\\.`, "é\xff\x00": "é\xff\x00", "[a-c]": `\[a-c\]`, "a\nb": "a\nb",
	} {
		if got := Quote(s); got != want {
			t.Errorf("Quote(%q) is %q", s, got)
		}
	}
	all := ""
	for b := range 256 {
		c := string([]byte{byte(b)})
		all += c
		want := c
		if strings.Contains("*+?|()[]\\.", c) {
			want = `\` + c
		}
		if got := Quote(c); got != want {
			t.Errorf("Quote(%q) is %q", c, got)
		}
		if got := Quote("a" + c + "b" + c); got != "a"+want+"b"+want {
			t.Errorf("Quote(%q) is %q", "a"+c+"b"+c, got)
		}
	}
	if got := Quote(all); len(got) != 266 || strings.ReplaceAll(got, `\`, "") != strings.ReplaceAll(all, `\`, "") {
		t.Errorf("Quote of all bytes is %q", got)
	}
	long := rep("a.", 1<<19)
	if got := Quote(long); got != rep(`a\.`, 1<<19) {
		t.Error("Quote of a long text")
	}
	if got := Quote(rep("a", 101)); got != rep("a", 101) || Right(got) != api.ErrLong {
		t.Error("Quote of a text of 101 bytes")
	}
	if got := Quote(rep(".", 50)); Right(got) != api.OK || !Fits(got, rep(".", 50)) || Fits(got, rep("a", 50)) {
		t.Error("Quote of 50 points")
	}
	if got := Quote(rep(".", 51)); Right(got) != api.ErrLong || len(got) != 102 {
		t.Error("Quote of 51 points")
	}
}

// TestQuoteFits (P5.2): only the text itself fits its Quote.
func TestQuoteFits(t *testing.T) {
	r := rand.New(rand.NewSource(57))
	texts := allTexts(2, "a*+?|()[]\\.^-\x00\xff")
	for range 1000 {
		b := make([]byte, r.Intn(51))
		for i := range b {
			b[i] = byte(r.Intn(256))
			if r.Intn(2) == 0 {
				b[i] = `*+?|()[]\.-^a`[r.Intn(13)]
			}
		}
		texts = append(texts, string(b))
	}
	for _, s := range texts {
		p := Quote(s)
		fits(t, p, s, true)
		if x, _ := Read(p); !isLeast(x, s) {
			t.Errorf("the least text of Quote(%q) is another one", s)
		}
		for range 10 {
			at := r.Intn(len(s) + 1)
			end := min(len(s), at+r.Intn(2))
			other := s[:at] + string([]byte{`*+?|()[]\.-^ab`[r.Intn(14)]})[:r.Intn(2)] + s[end:]
			fits(t, p, other, other == s)
		}
		fits(t, p, p, p == s)
		fits(t, p, s+s, s == "")
	}
	few := allTexts(2, "a*|(.\\")
	for _, s := range few {
		for _, other := range few {
			fits(t, Quote(s), other, s == other)
		}
	}
}

func isLeast(x *Pattern, want string) bool {
	s, ok := x.Least()
	return ok && s == want
}
