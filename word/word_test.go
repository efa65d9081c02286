package word

import (
	"math/rand"
	"regexp"
	"slices"
	"strings"
	"testing"

	"lychgate/api"
)

// modelWord is the chapter's form of a word at the beginning of a text.
var modelWord = regexp.MustCompile(`(?s)\A(?:[^ \t"]|"(?:[^"\\]|\\.)*")+`)

// modelSplit reads one word after the other by that form.
func modelSplit(line string) ([]string, bool) {
	for i := range len(line) {
		if line[i] < 32 && line[i] != 9 {
			return nil, false
		}
	}
	var l []string
	for {
		rest := strings.TrimLeft(line, " \t")
		if rest == "" || rest[0] == '#' {
			return l, true
		}
		if len(l) > 0 && len(rest) == len(line) {
			return nil, false
		}
		w := modelWord.FindString(rest)
		if w == "" {
			return nil, false
		}
		l, line = append(l, w), rest[len(w):]
	}
}

// splitsLike holds Split of line against the model, and reports whether the
// line is one.
func splitsLike(t *testing.T, line string) bool {
	t.Helper()
	want, ok := modelSplit(line)
	got, e := Split(line)
	if ok && (e != api.OK || !slices.Equal(got, want)) || !ok && (e != api.ErrForm || len(got) != 0) {
		t.Errorf("Split(%.80q) is %.80q, %d", line, got, e)
	}
	return ok
}

// eachText calls f with every text of at most n of the signs.
func eachText(signs string, n int, f func(s string)) {
	var grow func(s string)
	grow = func(s string) {
		f(s)
		if len(s) == n {
			return
		}
		for i := range len(signs) {
			grow(s + signs[i:i+1])
		}
	}
	grow("")
}

// someText returns a random text of fewer than n of the signs.
func someText(r *rand.Rand, signs string, n int) string {
	b := make([]byte, r.Intn(n))
	for i := range b {
		b[i] = signs[r.Intn(len(signs))]
	}
	return string(b)
}

// TestSplit (P7.1): the words of ordinary lines, and the edges of blanks,
// comments, quotes and \.
func TestSplit(t *testing.T) {
	for _, c := range []struct {
		line string
		want []string
	}{
		{"", nil}, {" ", nil}, {"\t", nil}, {" \t \t\t ", nil},
		{"a", []string{"a"}}, {"a b", []string{"a", "b"}}, {"a\tb", []string{"a", "b"}}, {"a \t\t  b", []string{"a", "b"}},
		{" a", []string{"a"}}, {"\ta", []string{"a"}}, {"a ", []string{"a"}}, {"a\t", []string{"a"}}, {" \ta\t b \t", []string{"a", "b"}},
		{"source web 2+0,3", []string{"source", "web", "2+0,3"}},
		{`route pager a,b 1 2 3 host=~"x .*",sev!="#1"`, []string{"route", "pager", "a,b", "1", "2", "3", `host=~"x .*",sev!="#1"`}},
		{"a a a", []string{"a", "a", "a"}}, {"- + =", []string{"-", "+", "="}}, {"ab cd", []string{"ab", "cd"}},

		{"#", nil}, {"# a b", nil}, {"#a", nil}, {" # a", nil}, {"\t#", nil}, {"##", nil},
		{"a #", []string{"a"}}, {"a # b", []string{"a"}}, {"a\t#b c", []string{"a"}}, {"a b #c d", []string{"a", "b"}}, {`a "b c" # d`, []string{"a", `"b c"`}},
		{"a#", []string{"a#"}}, {"a#b", []string{"a#b"}}, {"a##", []string{"a##"}}, {"a#b c", []string{"a#b", "c"}}, {"a# b", []string{"a#", "b"}}, {"a# #b", []string{"a#"}},
		{`"#"`, []string{`"#"`}}, {`"# a"`, []string{`"# a"`}}, {`" # "`, []string{`" # "`}}, {`a"#"`, []string{`a"#"`}}, {`a" #"b`, []string{`a" #"b`}},
		{`"a"#`, []string{`"a"#`}}, {`"a"#b c`, []string{`"a"#b`, "c"}}, {`""#`, []string{`""#`}}, {`"a" #b`, []string{`"a"`}},
		{`# "`, nil}, {`#"`, nil}, {`a # "b`, []string{"a"}}, {`a # "b" "`, []string{"a"}}, {`a #\`, []string{"a"}}, {`a # "\`, []string{"a"}}, {`a #"b" c`, []string{"a"}}, {`# "a" b`, nil},
		{`\#`, []string{`\#`}}, {`\ #`, []string{`\`}},

		{`""`, []string{`""`}}, {`"" ""`, []string{`""`, `""`}}, {`""""`, []string{`""""`}}, {`"a"`, []string{`"a"`}}, {`" "`, []string{`" "`}}, {"\"\t\"", []string{"\"\t\""}}, {`"a b"`, []string{`"a b"`}}, {`" a  b "`, []string{`" a  b "`}},
		{`a"b c"`, []string{`a"b c"`}}, {`a"b c"d`, []string{`a"b c"d`}}, {`"a b"c`, []string{`"a b"c`}}, {`"a b"c d`, []string{`"a b"c`, "d"}}, {`a""b`, []string{`a""b`}}, {`"a ""b c"`, []string{`"a ""b c"`}}, {`"a" "b"`, []string{`"a"`, `"b"`}}, {`a"b c"d"e f"g h`, []string{`a"b c"d"e f"g`, "h"}},

		{`"\""`, []string{`"\""`}}, {`"\" "`, []string{`"\" "`}}, {`"\"" a`, []string{`"\""`, "a"}}, {`"a\" b" c`, []string{`"a\" b"`, "c"}}, {`"\"\""`, []string{`"\"\""`}}, {`"a\" # "b`, []string{`"a\" # "b`}},
		{`"\\"`, []string{`"\\"`}}, {`"\\" a`, []string{`"\\"`, "a"}}, {`"a\\" b`, []string{`"a\\"`, "b"}}, {`"\\\""`, []string{`"\\\""`}}, {`"\\\\" a`, []string{`"\\\\"`, "a"}},
		{`"\a"`, []string{`"\a"`}}, {`"\n" a`, []string{`"\n"`, "a"}}, {`"\ " a`, []string{`"\ "`, "a"}}, {"\"\\\t\" a", []string{"\"\\\t\"", "a"}}, {`"\#" a`, []string{`"\#"`, "a"}}, {"\"\\\xff\"", []string{"\"\\\xff\""}},
		{`\`, []string{`\`}}, {`a\`, []string{`a\`}}, {`\a`, []string{`\a`}}, {`\\`, []string{`\\`}}, {`\ a`, []string{`\`, "a"}}, {`a\ b`, []string{`a\`, "b"}}, {`\"a b"`, []string{`\"a b"`}}, {`a\"b c" d`, []string{`a\"b c"`, "d"}}, {`"a"\ b`, []string{`"a"\`, "b"}}, {`"a"\" b"`, []string{`"a"\" b"`}},

		{"é ü", []string{"é", "ü"}}, {"\x7f", []string{"\x7f"}}, {"\x80\xff \xa0", []string{"\x80\xff", "\xa0"}}, {"\u00a0a\u2003b", []string{"\u00a0a\u2003b"}}, {"'a b'", []string{"'a", "b'"}}, {"`a b`", []string{"`a", "b`"}}, {"“a b”", []string{"“a", "b”"}},
	} {
		got, e := Split(c.line)
		if e != api.OK || !slices.Equal(got, c.want) {
			t.Errorf("Split(%q) is %q, %d", c.line, got, e)
		}
		splitsLike(t, c.line)
	}
}

// TestSplitOfNoLine (P7.1): quotes that are not closed, and bytes that no line
// may have, beside which there are no words.
func TestSplitOfNoLine(t *testing.T) {
	for _, line := range []string{
		`"`, `a "`, `a"`, `a "b`, `a "b c`, `"a" "`, `"""`, `"a""`, `"a"b"c`, ` "`, `" `, `"#`, `" #`, `"a # b`, `\"`, `a\"`, `"a"\"`, `\\"`,
		`"\`, `"\"`, `"\\`, `"\\\"`, `"a\`, `a "\`, `"a" "b\"`, `"\" a`, `"\a`, `"a\" # b`,
		"\n", "a\n", "\na", "a\nb", "a \n b", "\"\n\"", "\"a\nb\"", "\"\\\n\"", "#\n", "# a\nb", "a # b\n",
		"\x00", "a\x00", "\x00a", "a\x01b", "\"\x01\"", "\"\\\x01\"", "# \x01", "#\x1f", "a #\x00", "a\x1f", "a\r", "\r", "a \r", "a\v b", "a\f b", "a\x1b", "a\x08", "a # \"\x0b",
		"\x01 #", "\x01 a b", "\x02\"\"", "a b c d\x03 e f",
	} {
		if got, e := Split(line); e != api.ErrForm || len(got) != 0 {
			t.Errorf("Split(%q) is %q, %d", line, got, e)
		}
		splitsLike(t, line)
	}
}

// TestSplitOfEveryByte (P7.1): every byte in each place where it may mean
// something.
func TestSplitOfEveryByte(t *testing.T) {
	for c := range 256 {
		for _, around := range [][2]string{
			{"", ""}, {"a", ""}, {"", "a"}, {"a", "b"}, {"a ", ""}, {"", " a"}, {"a ", " b"}, {"a ", "b c"}, {"\t", "\t"},
			{`"`, `"`}, {`a"`, `"b c`}, {`" `, ` "`}, {`"`, `" a`}, {`"a"`, ` b`}, {`"a"`, `b c`}, {`"a"`, `"b"`}, {`"a" `, `b "c"`},
			{`"\`, `"`}, {`"\`, `" a`}, {`"a\`, `b" c`}, {`"\`, `a b`}, {`"\\`, `" a`}, {`\`, ""}, {`\`, ` a`}, {`a\`, `b c" d`}, {`\\`, `a b`},
			{"#", ""}, {"# ", " a"}, {"a #", "b"}, {`a # "`, ""}, {`# "\`, `"`}, {"a#", "b c"}, {`"#`, `" a`},
		} {
			splitsLike(t, around[0]+string([]byte{byte(c)})+around[1])
		}
	}
}

// TestSplitOfShortTexts (P7.1): all short texts of the bytes that mean
// something.
func TestSplitOfShortTexts(t *testing.T) {
	lines := 0
	eachText("a \t#\"\\\x01", 6, func(s string) {
		if splitsLike(t, s) {
			lines++
		}
	})
	eachText("a \"\\#", 8, func(s string) {
		if splitsLike(t, s) {
			lines++
		}
	})
	if lines < 1000 {
		t.Error(lines, "lines")
	}
}

// TestSplitOfRandomTexts (P7.1): longer texts.
func TestSplitOfRandomTexts(t *testing.T) {
	r := rand.New(rand.NewSource(7))
	lines := 0
	for range 30000 {
		if splitsLike(t, someText(r, "abc \t  \"\"\"\\#é\xff-=", 80)) {
			lines++
		}
	}
	if lines < 1000 || lines > 29000 {
		t.Error(lines, "lines")
	}
}

// TestJoin (P7.1, P7.2): the line of words, which is split into them again.
func TestJoin(t *testing.T) {
	for _, c := range []struct {
		words []string
		want  string
	}{
		{nil, ""}, {[]string{}, ""}, {[]string{"a"}, "a"}, {[]string{"a", "b"}, "a b"}, {[]string{"a", "a", "a"}, "a a a"},
		{[]string{"a", `"b c"`, "d"}, `a "b c" d`}, {[]string{`""`}, `""`}, {[]string{`""`, `""`}, `"" ""`}, {[]string{`"#"`, "a#b"}, `"#" a#b`}, {[]string{"a", `"b"#`}, `a "b"#`},
		{[]string{"\"\t\""}, "\"\t\""}, {[]string{`"\""`, `"\\"`}, `"\"" "\\"`}, {[]string{`\`, `a\`, `\#`}, `\ a\ \#`}, {[]string{"é", "\xff"}, "é \xff"}, {[]string{`a=" # "b`, "-"}, `a=" # "b -`},
	} {
		got, e := Join(c.words)
		if got != c.want || e != api.OK {
			t.Errorf("Join(%q) is %q, %d", c.words, got, e)
		}
		if again, e := Split(got); e != api.OK || !slices.Equal(again, c.words) {
			t.Errorf("Split(%q) is %q, %d", got, again, e)
		}
	}
}

// TestJoinOfNoWords (P7.1): texts whose line is none, or has other words.
func TestJoinOfNoWords(t *testing.T) {
	for _, words := range [][]string{
		{""}, {"", ""}, {"", "a"}, {"a", ""}, {"a", "", "b"}, {`""`, ""},
		{" "}, {"\t"}, {"a b"}, {"a\tb"}, {" a"}, {"a "}, {"\ta"}, {"a\t"}, {"a", "b c"}, {"a b", "c"}, {"a", " ", "b"}, {`"a" `}, {`"a" "b"`},
		{"#"}, {"#a"}, {"a", "#"}, {"a", "#b"}, {"a", "#", "b"}, {"#", "a"}, {"a b", "#"}, {"a #"}, {"a", "b #c"},
		{`"`}, {`"a`}, {`a"`}, {"a", `"`}, {`"`, "a"}, {`"`, `"`}, {`"a`, `b"`}, {`a"`, `"b`}, {`\"`}, {`"\"`}, {`"\`}, {`"\`, `"`}, {`"\`, `""`}, {`"`, "#", `"`},
		{"\n"}, {"a\n"}, {"a", "b\nc"}, {"\x00"}, {"a", "\x1f"}, {"\"\x01\""}, {"\r"}, {"a", "#\x01"},
	} {
		if got, e := Join(words); got != "" || e != api.ErrArg {
			t.Errorf("Join(%q) is %q, %d", words, got, e)
		}
	}
}

// joinsLike holds Join of words against the model, and reports whether they
// are joined.
func joinsLike(t *testing.T, words []string) bool {
	t.Helper()
	line := strings.Join(words, " ")
	again, ok := modelSplit(line)
	ok = ok && slices.Equal(again, words)
	got, e := Join(words)
	if ok && (got != line || e != api.OK) || !ok && (got != "" || e != api.ErrArg) {
		t.Errorf("Join(%q) is %q, %d", words, got, e)
	}
	return ok
}

// TestJoinOfShortTexts (P7.1, P7.2): all lists of up to three short texts.
func TestJoinOfShortTexts(t *testing.T) {
	var texts []string
	eachText("a \"\\#", 2, func(s string) { texts = append(texts, s) })
	texts = append(texts, "\t", "\n", `""`, `"a"`, `" "`, `"#"`, `"\""`, `a""`)
	joined := 0
	for _, a := range texts {
		for _, b := range texts {
			for _, words := range [][]string{{a}, {a, b}} {
				if joinsLike(t, words) {
					joined++
				}
			}
			for _, c := range texts {
				if joinsLike(t, []string{a, b, c}) {
					joined++
				}
			}
		}
	}
	if joined < 1000 {
		t.Error(joined, "joined")
	}
}

// TestJoinOfWords (P7.2): the words of any line are joined, and split again.
func TestJoinOfWords(t *testing.T) {
	r := rand.New(rand.NewSource(8))
	for range 20000 {
		words, e := Split(someText(r, "ab \t \"\"\\#é\xff", 60))
		if e != api.OK {
			continue
		}
		line, e := Join(words)
		if e != api.OK || line != strings.Join(words, " ") {
			t.Fatalf("Join(%q) is %q, %d", words, line, e)
		}
		if again, e := Split(line); e != api.OK || !slices.Equal(again, words) {
			t.Fatalf("Split(%q) is %q, %d, not %q", line, again, e, words)
		}
	}
}

// sameLines reports whether two lists of lines have the same words.
func sameLines(a, b [][]string) bool {
	return slices.EqualFunc(a, b, func(x, y []string) bool { return slices.Equal(x, y) })
}

// TestLines (P7.1): the words of each line, with and without words.
func TestLines(t *testing.T) {
	for _, c := range []struct {
		text string
		want [][]string
	}{
		{"", [][]string{nil}}, {" ", [][]string{nil}}, {"# a", [][]string{nil}}, {"a", [][]string{{"a"}}}, {"a b", [][]string{{"a", "b"}}},
		{"\n", [][]string{nil, nil}}, {"\n\n", [][]string{nil, nil, nil}}, {"a\n", [][]string{{"a"}, nil}}, {"\na", [][]string{nil, {"a"}}}, {"a\nb", [][]string{{"a"}, {"b"}}}, {"a\n\nb", [][]string{{"a"}, nil, {"b"}}}, {"a b\n\nc", [][]string{{"a", "b"}, nil, {"c"}}},
		{"a\nb\nc\nd\n", [][]string{{"a"}, {"b"}, {"c"}, {"d"}, nil}},
		{"a # b\nc", [][]string{{"a"}, {"c"}}}, {"# \"\na", [][]string{nil, {"a"}}}, {"a # \"b\nc\" # d", nil}, {"#\n#\n", [][]string{nil, nil, nil}},
		{" a \n\tb\t\n", [][]string{{"a"}, {"b"}, nil}}, {"\"a b\"\n\"\\\"\"", [][]string{{`"a b"`}, {`"\""`}}}, {"a\\\nb", [][]string{{`a\`}, {"b"}}},
		{"source web 1\nreceiver pager 2+0 # x\n\nperson ann 3\n", [][]string{{"source", "web", "1"}, {"receiver", "pager", "2+0"}, nil, {"person", "ann", "3"}, nil}},
	} {
		got, k, e := Lines(c.text)
		if c.want == nil {
			if len(got) != 0 || k != 2 || e != api.ErrForm {
				t.Errorf("Lines(%q) is %q, %d, %d", c.text, got, k, e)
			}
			continue
		}
		if !sameLines(got, c.want) || k != 0 || e != api.OK {
			t.Errorf("Lines(%q) is %q, %d, %d", c.text, got, k, e)
		}
	}
}

// TestLinesWithAnError (P7.1): the number of the first line that has an error,
// wherever it is, and no words.
func TestLinesWithAnError(t *testing.T) {
	for text, want := range map[string]int{
		`"`: 1, "\"\na": 1, "a \"\nb\nc": 1, "a\nb \"\nc": 2, "a\nb\n\"c": 3, "a\n\"": 2, "\n\"": 2, "\n\n\n\"\n\n": 4, "\"\n\"\n\"": 1, "a\n\"\n\"": 2,
		"\"a\nb\"": 1, "a\n\"b\nc\"\nd": 2, "\"\\\n\"": 1, "a\n\"\\\nb": 2,
		"\x01": 1, "a\n\x00\nb": 2, "a\n# \x1f": 2, "a\nb\r\nc": 2, "a\r\nb": 1, "a\nb\nc\n\v": 4, "#\n#\n#\x01\n#": 3, "a\n\x01\n\"": 2, "a\n\"\n\x01": 2,
	} {
		if got, k, e := Lines(text); len(got) != 0 || k != want || e != api.ErrForm {
			t.Errorf("Lines(%q) is %q, %d, %d", text, got, k, e)
		}
	}
}

// linesLike holds Lines against Split of each line, and reports whether no
// line has an error.
func linesLike(t *testing.T, lines []string) bool {
	t.Helper()
	var want [][]string
	bad := 0
	for i, line := range lines {
		words, ok := modelSplit(line)
		if !ok && bad == 0 {
			bad = i + 1
		}
		want = append(want, words)
	}
	text := strings.Join(lines, "\n")
	got, k, e := Lines(text)
	if bad == 0 && (!sameLines(got, want) || k != 0 || e != api.OK) || bad > 0 && (len(got) != 0 || k != bad || e != api.ErrForm) {
		t.Errorf("Lines(%q) is %q, %d, %d", text, got, k, e)
	}
	return bad == 0
}

// TestLinesOfShortTexts (P7.1, P7.2): all short texts of the bytes that mean
// something.
func TestLinesOfShortTexts(t *testing.T) {
	eachText("a \n\"#\\", 6, func(s string) { linesLike(t, strings.Split(s, "\n")) })
	eachText("a\n\x01\"", 7, func(s string) { linesLike(t, strings.Split(s, "\n")) })
}

// TestLinesOfRandomTexts (P7.1, P7.2): longer texts, and what becomes of one if
// a line is changed.
func TestLinesOfRandomTexts(t *testing.T) {
	r := rand.New(rand.NewSource(9))
	whole := 0
	for range 10000 {
		lines := make([]string, 1+r.Intn(6))
		for i := range lines {
			lines[i] = someText(r, "abcd  \t\"#", 8)
		}
		if linesLike(t, lines) {
			whole++
		}
		lines[r.Intn(len(lines))] = someText(r, "abcd  \t\"#\\\x02", 8)
		linesLike(t, lines)
	}
	if whole < 500 || whole > 9500 {
		t.Error(whole, "texts without an error")
	}
}

// TestLinesAreIndependent (P7.2): a line has the same words whatever the other
// lines are.
func TestLinesAreIndependent(t *testing.T) {
	others := []string{"", "#", "# \"", "a", "a\\", "\"a b\"", "a # b", "\"\\\"\"", " \t", "é"}
	for _, line := range []string{"", "a b", "# c", "a \"b # c\" d#e #f", "\"\\\\\" x", "\\", "\\\"a b\""} {
		want, e := Split(line)
		if e != api.OK {
			t.Fatal(line, e)
		}
		for _, before := range others {
			for _, behind := range others {
				got, k, e := Lines(before + "\n" + line + "\n" + behind)
				if k != 0 || e != api.OK || len(got) != 3 || !slices.Equal(got[1], want) {
					t.Errorf("Lines: %q between %q and %q is %q, %d, %d", line, before, behind, got, k, e)
				}
			}
		}
	}
}

// TestMemory (R4): results are new, arguments stay as they are.
func TestMemory(t *testing.T) {
	words := []string{"a", `"b c"`, "d"}
	if _, e := Join(words); e != api.OK || !slices.Equal(words, []string{"a", `"b c"`, "d"}) {
		t.Errorf("Join changed its words: %q", words)
	}
	line := "a b c"
	one, _ := Split(line)
	one[0] = "x"
	_ = append(one[:1], "y")
	if two, e := Split(line); e != api.OK || !slices.Equal(two, []string{"a", "b", "c"}) {
		t.Errorf("a second Split is %q, %d", two, e)
	}
	all, _, _ := Lines("a b\nc d\ne f\n")
	for i := range all {
		all[i] = append(all[i], "x", "y", "z")
	}
	if !sameLines(all, [][]string{{"a", "b", "x", "y", "z"}, {"c", "d", "x", "y", "z"}, {"e", "f", "x", "y", "z"}, {"x", "y", "z"}}) {
		t.Errorf("lines share memory: %q", all)
	}
	list, _ := Names("a,b")
	list[0] = "x"
	if again, e := Names("a,b"); e != api.OK || !slices.Equal(again, []string{"a", "b"}) {
		t.Errorf("a second Names is %q, %d", again, e)
	}
	if NamesText(list) != "x,b" || !slices.Equal(list, []string{"x", "b"}) {
		t.Errorf("NamesText changed its texts: %q", list)
	}
}

// TestLongLines (T0): long arguments are processed to their end.
func TestLongLines(t *testing.T) {
	const n = 1 << 19
	long := strings.Repeat("a", n)
	if got, e := Split(long); e != api.OK || !slices.Equal(got, []string{long}) {
		t.Error("one long word:", len(got), e)
	}
	if got, e := Split(strings.Repeat("a ", n)); e != api.OK || len(got) != n {
		t.Error("many words:", len(got), e)
	}
	if got, e := Split(strings.Repeat(" \t", n)); e != api.OK || len(got) != 0 {
		t.Error("blanks:", len(got), e)
	}
	if got, e := Split(strings.Repeat(`"`, 2*n)); e != api.OK || len(got) != 1 {
		t.Error("an even number of quotes:", len(got), e)
	}
	if got, e := Split(strings.Repeat(`"`, 2*n+1)); e != api.ErrForm || len(got) != 0 {
		t.Error("an odd number of quotes:", len(got), e)
	}
	if got, e := Split(`"` + strings.Repeat(`\`, 2*n) + `" a`); e != api.OK || len(got) != 2 {
		t.Error("an even number of slashes:", len(got), e)
	}
	if got, e := Split(`"` + strings.Repeat(`\`, 2*n+1) + `" a`); e != api.ErrForm || len(got) != 0 {
		t.Error("an odd number of slashes:", len(got), e)
	}
	if got, e := Split("#" + long + "\x01"); e != api.ErrForm || len(got) != 0 {
		t.Error("a long comment:", len(got), e)
	}
	if got, k, e := Lines(strings.Repeat("\n", n)); len(got) != n+1 || k != 0 || e != api.OK {
		t.Error("many lines:", len(got), k, e)
	}
	if got, k, e := Lines(strings.Repeat("a\n", n) + `"`); len(got) != 0 || k != n+1 || e != api.ErrForm {
		t.Error("an error behind many lines:", len(got), k, e)
	}
	words := slices.Repeat([]string{`"a b"`}, n)
	if got, e := Join(words); e != api.OK || got != strings.TrimSuffix(strings.Repeat(`"a b" `, n), " ") {
		t.Error("many joined words:", len(got), e)
	}
	if got, e := Join(slices.Repeat([]string{""}, n)); e != api.ErrArg || got != "" {
		t.Error("many empty words:", len(got), e)
	}
}
