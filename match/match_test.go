package match

import (
	"math"
	"math/rand"
	"slices"
	"strings"
	"testing"

	"lychgate/api"
	"lychgate/pattern"
)

// noOps returns numbers that are no Op, next to the Ops and far off.
func noOps() []int {
	return []int{-1, 4, 5, -2, -4, 8, 256, 257, 1 << 32, 1<<32 + 2, math.MinInt, math.MaxInt}
}

// noPatterns returns values of at most 200 bytes that are no valid patterns.
func noPatterns() []string {
	return []string{"(", ")", "[", "]", "[]", "*", "a**", "|+", "a|?", `\`, `a\`, "[b-a]", "(a", "a)", strings.Repeat("a", 101), strings.Repeat("a", 200), strings.Repeat("(", 9) + strings.Repeat(")", 9)}
}

// spoiled returns matchers that are not valid, each for one reason.
func spoiled() []api.Matcher {
	var l []api.Matcher
	for _, op := range noOps() {
		l = append(l, api.Matcher{Name: "a", Op: op}, api.Matcher{Name: "a", Op: op, Value: "x"}, api.Matcher{Name: "none", Op: op, Value: "x"})
	}
	for op := range 4 {
		for _, name := range []string{"", "A", "1", "1a", "abcdefghijklm", "a-b", "a ", "é", "a\x00"} {
			l = append(l, api.Matcher{Name: name, Op: op}, api.Matcher{Name: name, Op: op, Value: "x"})
		}
		l = append(l, api.Matcher{Name: "a", Op: op, Value: strings.Repeat("x", 201)}, api.Matcher{Name: "a", Op: op, Value: strings.Repeat("x", 1000)})
	}
	for _, p := range noPatterns() {
		l = append(l, api.Matcher{Name: "a", Op: api.MatchLike, Value: p}, api.Matcher{Name: "a", Op: api.MatchNotLike, Value: p}, api.Matcher{Name: "none", Op: api.MatchNotLike, Value: p})
	}
	return l
}

// TestOps (P6.1): the Ops have the numbers of the chapter.
func TestOps(t *testing.T) {
	l := fields("a", "x.")
	for op, want := range [][2]bool{{true, false}, {false, true}, {true, true}, {false, false}} {
		if Fits(l, api.Matcher{Name: "a", Op: op, Value: "x."}) != want[0] || Fits(fields("a", "xy"), api.Matcher{Name: "a", Op: op, Value: "x."}) != want[1] {
			t.Errorf("Op %d", op)
		}
	}
}

// TestFine (P6.1): the edges of what a matcher may be.
func TestFine(t *testing.T) {
	for op := range 4 {
		for _, name := range []string{"a", "_", "_1", "host", "abcdefghijkl"} {
			for _, value := range []string{"", "x", "a|b[0-9]*", "\x00\xff\n", `"`, strings.Repeat("x", 100), around(8, "a")} {
				if m := (api.Matcher{Name: name, Op: op, Value: value}); !Fine(m) {
					t.Errorf("Fine(%v) is false", m)
				}
			}
		}
		// Values of 101 to 200 bytes are texts to be compared, but no patterns.
		plain := op == api.MatchIs || op == api.MatchNot
		for _, value := range append(noPatterns(), strings.Repeat("x", 199), bytesFrom(0, 199), bytesFrom(56, 255), strings.Repeat("\xff", 200)) {
			if m := (api.Matcher{Name: "a", Op: op, Value: value}); Fine(m) != plain {
				t.Errorf("Fine(%v) is %v", m, !plain)
			}
		}
	}
	for _, m := range spoiled() {
		if Fine(m) {
			t.Errorf("Fine(%v) is true", m)
		}
	}
}

// around returns s within n parentheses.
func around(n int, s string) string {
	return strings.Repeat("(", n) + s + strings.Repeat(")", n)
}

// TestFits (P6.1): ordinary matchers, and fields that are not there.
func TestFits(t *testing.T) {
	long := strings.Repeat("v", 200)
	l := fields("any", bytesFrom(0, 199), "dot", "a.c", "empty", "", "host", "db1", "long", long, "sev", "high")
	for _, c := range []struct {
		name       string
		value      string
		same, like bool
	}{
		{"host", "db1", true, true}, {"host", "db2", false, false}, {"host", "", false, false}, {"host", "db", false, false}, {"host", "b1", false, false}, {"host", "db11", false, false}, {"host", "DB1", false, false},
		{"host", "db[0-9]", false, true}, {"host", "db[2-9]", false, false}, {"host", ".*", false, true}, {"host", "db1|high", false, true}, {"host", "|db1", false, true}, {"host", "(db1)", false, true}, {"host", "^db1$", false, false}, {"host", `\db1`, false, true}, {"host", "high", false, false},
		{"sev", "high", true, true}, {"sev", "low", false, false}, {"sev", "high|low", false, true},
		{"dot", "a.c", true, true}, {"dot", "abc", false, false}, {"dot", `a\.c`, false, true},
		{"empty", "", true, true}, {"empty", "x", false, false}, {"empty", "x*", false, true}, {"empty", "x+", false, false}, {"empty", " ", false, false}, {"empty", "\x00", false, false},
		{"team", "", true, true}, {"team", "x", false, false}, {"team", "x*", false, true}, {"team", "x+", false, false}, {"team", ".*", false, true}, {"team", ".", false, false}, {"team", "team", false, false}, {"team", "db1", false, false},
		{"hos", "db1", false, false}, {"host1", "db1", false, false}, {"hos", "", true, true},
		{"long", "v*", false, true}, {"long", "v+w", false, false}, {"any", "(.|\n)*", false, true}, {"any", "[^\xff]*", false, true}, {"any", "[^\x80]*", false, false},
	} {
		for op, want := range []bool{c.same, !c.same, c.like, !c.like} {
			m := api.Matcher{Name: c.name, Op: op, Value: c.value}
			if Fits(l, m) != want || All(l, []api.Matcher{m}) != want {
				t.Errorf("%v: Fits or All is not %v", m, want)
			}
		}
	}
	for _, name := range []string{"any", "long"} {
		for op, want := range []bool{true, false} {
			if Fits(l, api.Matcher{Name: name, Op: op, Value: Value(l, name)}) != want || Fits(l, api.Matcher{Name: "host", Op: op, Value: Value(l, name)}) == want || Fits(l, api.Matcher{Name: name, Op: op, Value: Value(l, name)[1:]}) == want {
				t.Errorf("%s, Op %d", name, op)
			}
		}
	}
}

// TestFitsOtherFields (P6.1, T0): of fields that are not valid, the first one
// with the name counts, whatever its value.
func TestFitsOtherFields(t *testing.T) {
	long := strings.Repeat("v", 100000)
	l := fields("b", "1", "a", "2", "b", "3", "c", long, "", "4")
	for _, c := range []struct {
		m    api.Matcher
		want bool
	}{
		{api.Matcher{Name: "b", Value: "1"}, true}, {api.Matcher{Name: "b", Value: "3"}, false}, {api.Matcher{Name: "b", Op: 1, Value: "3"}, true}, {api.Matcher{Name: "b", Op: 2, Value: "1|3"}, true}, {api.Matcher{Name: "b", Op: 3, Value: "3"}, true}, {api.Matcher{Name: "a", Value: "2"}, true},
		{api.Matcher{Name: "c", Op: 2, Value: "v*"}, true}, {api.Matcher{Name: "c", Op: 3, Value: "(v|vv)*w"}, true}, {api.Matcher{Name: "c", Op: 1, Value: long[:200]}, true}, {api.Matcher{Name: "c", Value: long}, false},
		{api.Matcher{Name: "", Value: "4"}, false}, {api.Matcher{Name: "", Op: 1, Value: "5"}, false},
	} {
		if Fits(l, c.m) != c.want {
			t.Errorf("%v: Fits is %v", c.m, !c.want)
		}
	}
}

// TestFitsNothing (P6.1): a matcher that is not valid matches nothing, not even
// one that inverts another.
func TestFitsNothing(t *testing.T) {
	for _, l := range [][]api.Field{nil, fields("a", ""), fields("a", "x"), fields("a", "("), fields("b", "x"), fields("", ""), fields("A", "x"), fields("a", strings.Repeat("x", 201)), fields("abcdefghijklm", "x")} {
		for _, m := range spoiled() {
			if Fits(l, m) || All(l, []api.Matcher{m}) {
				t.Errorf("%v matches %.40q", m, l)
			}
		}
	}
}

// TestAll (P6.1): all matchers count, none of them match everything, and more
// than twelve are no error.
func TestAll(t *testing.T) {
	l := fields("host", "db1", "sev", "high")
	yes, no, bad := api.Matcher{Name: "host", Value: "db1"}, api.Matcher{Name: "host", Op: api.MatchNot, Value: "db1"}, api.Matcher{Name: "host", Op: api.MatchNotLike, Value: "("}
	other := api.Matcher{Name: "team", Op: api.MatchLike, Value: "x*"}
	for _, l := range [][]api.Field{nil, l, someFields(9)} {
		if !All(l, nil) || !All(l, []api.Matcher{}) {
			t.Errorf("no matchers do not match %q", l)
		}
	}
	for n := 1; n <= 14; n++ {
		m := slices.Repeat([]api.Matcher{yes, other}, n)[:n]
		if !All(l, m) {
			t.Errorf("%d matchers: false", n)
		}
		for i := range n {
			for _, one := range []api.Matcher{no, bad} {
				changed := slices.Clone(m)
				changed[i] = one
				if All(l, changed) {
					t.Errorf("%v at %d of %d: true", one, i, n)
				}
			}
		}
	}
	if All(l, []api.Matcher{yes, no}) || All(l, []api.Matcher{no, no}) || All(nil, []api.Matcher{yes}) {
		t.Error("a matcher that does not match")
	}
}

// randomMatcher returns a matcher, mostly a valid one, of few names and
// values.
func randomMatcher(r *rand.Rand) api.Matcher {
	m := api.Matcher{Name: string("_abcd"[r.Intn(5)]) + strings.Repeat("1", r.Intn(3)), Op: r.Intn(4)}
	for range r.Intn(4) {
		m.Value += string(`xxx.*|"\`[r.Intn(8)])
	}
	return m
}

// TestInverse (P6.2): MatchNot matches exactly where MatchIs does not, and
// MatchNotLike exactly where MatchLike does not.
func TestInverse(t *testing.T) {
	r := rand.New(rand.NewSource(3))
	met := [4]int{}
	for range 50000 {
		l, m := randomFields(r), randomMatcher(r)
		value := Value(l, m.Name)
		var got [4]bool
		for op := range got {
			got[op] = Fits(l, api.Matcher{Name: m.Name, Op: op, Value: m.Value})
			if got[op] {
				met[op]++
			}
		}
		if got[api.MatchIs] != (value == m.Value) || got[api.MatchNot] == got[api.MatchIs] {
			t.Fatalf("%q, %v: %v", l, m, got)
		}
		valid := pattern.Right(m.Value) == api.OK
		if got[api.MatchLike] != pattern.Fits(m.Value, value) || got[api.MatchNotLike] != (valid && !got[api.MatchLike]) {
			t.Fatalf("%q, %v: %v", l, m, got)
		}
	}
	if slices.Min(met[:]) < 1000 {
		t.Errorf("some Ops hardly ever matched: %v", met)
	}
}
