package silence

import (
	"fmt"
	"math"
	"math/rand"
	"regexp"
	"slices"
	"strings"
	"testing"

	"lychgate/alert"
	"lychgate/api"
)

// end is the greatest time.
const end = 1 << 40

// modelName is the form of a name.
var modelName = regexp.MustCompile(`\A[a-z_][a-z0-9_]{0,11}\z`)

// top is the label to which all valid ones flow.
var top = api.Label{Level: 7, Cats: math.MaxUint32}

// fields returns the fields of names and values that take turns.
func fields(s ...string) []api.Field {
	var l []api.Field
	for i := 0; i < len(s); i += 2 {
		l = append(l, api.Field{Name: s[i], Value: s[i+1]})
	}
	return l
}

// is returns the matchers of names and values that take turns.
func is(s ...string) []api.Matcher {
	var l []api.Matcher
	for _, f := range fields(s...) {
		l = append(l, api.Matcher{Name: f.Name, Value: f.Value})
	}
	return l
}

// some returns n valid matchers, all of which match the alert whole.
func some(n int) []api.Matcher {
	var l []api.Matcher
	for i := range n {
		l = append(l, api.Matcher{Name: fmt.Sprint("f", i%8), Op: api.MatchNot, Value: fmt.Sprint(i)})
	}
	return l
}

// quietOf returns a valid silence of label a that suppresses the alert whole
// from 5 to 9.
func quietOf(a api.Label) Silence {
	return Silence{When: is("team", "t"), From: 5, To: 9, Label: a}
}

// whole returns a valid alert.
func whole() alert.Alert {
	return alert.Alert{Source: "prom", Fields: fields("host", "h", "sev", "high", "team", "t"), Label: api.Label{Level: 2, Cats: 2}}
}

// raises returns a policy that raises one field.
func raises(name string, a api.Label) api.Policy {
	return api.Policy{Raises: []api.Named{{Name: name, Label: a}}}
}

// labels are valid labels, and others that are not.
func labels() (valid, others []api.Label) {
	for _, level := range []int{0, 1, 2, 3, 6, 7} {
		for _, cats := range []uint32{0, 1, 2, 3, 1 << 31, math.MaxUint32} {
			valid = append(valid, api.Label{Level: level, Cats: cats})
		}
	}
	for _, level := range []int{-1, 8, 9, math.MinInt, math.MaxInt} {
		others = append(others, api.Label{Level: level}, api.Label{Level: level, Cats: 3}, api.Label{Level: level, Cats: math.MaxUint32})
	}
	return valid, others
}

// wrong returns, by its name, what makes a valid silence one that is not.
func wrong() map[string]func(s *Silence) {
	l := map[string]func(s *Silence){
		"nil matchers":   func(s *Silence) { s.When = nil },
		"empty matchers": func(s *Silence) { s.When = []api.Matcher{} },
		"nothing":        func(s *Silence) { *s = Silence{} },
		"matchers alone": func(s *Silence) { *s = Silence{When: is("a", "")} },
	}
	for _, n := range []int{13, 14, 24, 256, 257, 268, 1000} {
		l[fmt.Sprint(n, " matchers")] = func(s *Silence) { s.When = some(n) }
	}
	for what, m := range wrongMatchers() {
		l["alone "+what] = func(s *Silence) { s.When = []api.Matcher{m} }
		for _, at := range []int{0, 5, 11} {
			l[fmt.Sprint(what, " at ", at)] = func(s *Silence) { s.When = slices.Insert(some(11), at, m) }
		}
	}
	for _, x := range wrongTimes() {
		l[fmt.Sprint("times ", x)] = func(s *Silence) { s.From, s.To = x[0], x[1] }
	}
	_, others := labels()
	for _, x := range others {
		l[fmt.Sprint("label ", x)] = func(s *Silence) { s.Label = x }
	}
	return l
}

func wrongMatchers() map[string]api.Matcher {
	l := map[string]api.Matcher{
		"zero": {}, "long value": {Name: "a", Value: strings.Repeat("v", 201)}, "very long value": {Name: "a", Value: strings.Repeat("v", 1<<16)},
		"long pattern": {Name: "a", Op: api.MatchLike, Value: strings.Repeat("v", 101)}, "deep pattern": {Name: "a", Op: api.MatchNotLike, Value: strings.Repeat("(", 9) + strings.Repeat(")", 9)},
	}
	for _, name := range []string{"", "A", "1a", "a-b", " a", "a\x00", "é", "abcdefghijklm"} {
		l[fmt.Sprintf("name %q", name)] = api.Matcher{Name: name, Value: "v"}
	}
	for _, op := range []int{-1, 4, 5, 256, math.MinInt, math.MaxInt} {
		l[fmt.Sprint("op ", op)] = api.Matcher{Name: "a", Op: op, Value: "v"}
	}
	for _, value := range []string{"(", "*", "[b-a]", "a\\", "[]", "a)"} {
		l["like "+value] = api.Matcher{Name: "a", Op: api.MatchLike, Value: value}
		l["not like "+value] = api.Matcher{Name: "a", Op: api.MatchNotLike, Value: value}
	}
	return l
}

func wrongTimes() [][2]int {
	return [][2]int{
		{-1, 0}, {-1, 1}, {-1, 9}, {-1, end}, {-2, -1}, {-end, 5}, {math.MinInt, 0}, {math.MinInt, 9}, {math.MinInt, math.MaxInt}, {math.MinInt, math.MinInt},
		{0, 0}, {0, -1}, {0, end + 1}, {0, math.MinInt}, {0, math.MaxInt}, {1, 1}, {1, 0}, {5, 5}, {5, 4}, {5, 0}, {5, -1}, {5, end + 1}, {5, math.MaxInt},
		{end - 1, end - 1}, {end - 1, end + 1}, {end - 1, 0}, {end, end}, {end, end - 1}, {end, 0}, {end, end + 1}, {end + 1, end + 1}, {end + 1, end + 2}, {end + 1, end}, {math.MaxInt, math.MaxInt}, {math.MaxInt, math.MinInt}, {math.MaxInt - 1, math.MaxInt}, {1<<32 + 5, 9},
	}
}

// The model: the chapter once more, by other means.

type entry struct {
	id int
	s  Silence
}

type model struct {
	entries []entry
	added   int
}

func modelRightLabel(a api.Label) bool {
	return a.Level >= 0 && a.Level <= 7
}

func modelFlows(a, b api.Label) bool {
	return modelRightLabel(a) && modelRightLabel(b) && a.Level <= b.Level && a.Cats|b.Cats == b.Cats
}

// modelFine reports whether m is valid. It takes patterns for ones of regexp,
// which those of these tests are.
func modelFine(m api.Matcher) bool {
	if !modelName.MatchString(m.Name) || m.Op < 0 || m.Op > 3 || len(m.Value) > 200 {
		return false
	}
	if m.Op < 2 {
		return true
	}
	_, err := regexp.Compile(m.Value)
	return err == nil && len(m.Value) <= 100 && strings.Count(m.Value, "(") <= 8
}

func modelRight(s Silence) bool {
	fine := 0
	for _, m := range s.When {
		if modelFine(m) {
			fine++
		}
	}
	return fine == len(s.When) && fine >= 1 && fine <= 12 && s.From >= 0 && s.From < s.To && s.To <= end && modelRightLabel(s.Label)
}

// modelShown returns the values that the label to is shown of a, by their
// names.
func modelShown(p api.Policy, a alert.Alert, to api.Label) map[string]string {
	shown := map[string]string{}
	for _, f := range a.Fields {
		base := a.Label
		for _, r := range p.Raises {
			if r.Name == f.Name {
				base = api.Label{Level: max(base.Level, r.Label.Level), Cats: base.Cats | r.Label.Cats}
				break
			}
		}
		if modelFlows(a.Label, to) && modelFlows(base, to) {
			shown[f.Name] = f.Value
		}
	}
	return shown
}

func modelFits(shown map[string]string, m api.Matcher) bool {
	value := shown[m.Name]
	switch m.Op {
	case 0:
		return value == m.Value
	case 1:
		return value != m.Value
	}
	return regexp.MustCompile(`\A(?s:`+m.Value+`)\z`).MatchString(value) == (m.Op == 2)
}

func (l *model) lay(s Silence) (int, api.Errno) {
	same := 0
	for _, e := range l.entries {
		if e.s.Label == s.Label {
			same++
		}
	}
	switch {
	case !modelRight(s):
		return 0, api.ErrArg
	case same == 10:
		return 0, api.ErrFull
	}
	l.added++
	l.entries = append(l.entries, entry{l.added, s})
	return l.added, api.OK
}

func (l *model) end(id, now int) api.Errno {
	for i, e := range l.entries {
		if e.id != id || now >= e.s.To {
			continue
		}
		if now > e.s.From {
			l.entries[i].s.To = now
		} else {
			l.entries = slices.Delete(l.entries, i, i+1)
		}
		return api.OK
	}
	return api.ErrNone
}

func (l *model) quiet(p api.Policy, a alert.Alert, to api.Label, now int) []int {
	shown := modelShown(p, a, to)
	var ids []int
next:
	for _, e := range l.entries {
		if len(shown) == 0 || !modelFlows(e.s.Label, to) || now < e.s.From || now >= e.s.To {
			continue
		}
		for _, m := range e.s.When {
			if !modelFits(shown, m) {
				continue next
			}
		}
		ids = append(ids, e.id)
	}
	return ids
}

func (l *model) forget(now int) int {
	before := len(l.entries)
	l.entries = slices.DeleteFunc(l.entries, func(e entry) bool { return now >= e.s.To })
	return before - len(l.entries)
}

// checksKept holds Numbers and Get of l, also of numbers that are not there,
// against the model.
func checksKept(t *testing.T, what string, l *List, m *model) {
	t.Helper()
	var want []int
	for _, e := range m.entries {
		want = append(want, e.id)
		if s, ok := l.Get(e.id); !ok || fmt.Sprint(s) != fmt.Sprint(e.s) {
			t.Errorf("%s: Get of %d is %.300v, %v, not %.300v", what, e.id, s, ok, e.s)
		}
	}
	if got := l.Numbers(); !slices.Equal(got, want) {
		t.Errorf("%s: Numbers are %v, not %v", what, got, want)
	}
	for _, id := range []int{math.MinInt, -1, 0, m.added + 1, m.added + 2, math.MaxInt} {
		lacks(t, what, l, id)
	}
	for id := 1; id <= m.added; id++ {
		if !slices.Contains(want, id) {
			lacks(t, what, l, id)
		}
	}
}

// lacks holds l against having no silence with the number id.
func lacks(t *testing.T, what string, l *List, id int) {
	t.Helper()
	if s, ok := l.Get(id); ok || fmt.Sprintf("%#v", s) != fmt.Sprintf("%#v", Silence{}) {
		t.Errorf("%s: Get of %d is %v, %v", what, id, s, ok)
	}
}

// lays adds s to both, and returns its number.
func lays(t *testing.T, what string, l *List, m *model, s Silence) (int, api.Errno) {
	t.Helper()
	before := fmt.Sprintf("%#v", s)
	id, e := l.Lay(s)
	if wantId, want := m.lay(s); id != wantId || e != want {
		t.Errorf("%s: Lay of %.300v is %d, %d, not %d, %d", what, s, id, e, wantId, want)
	}
	if fmt.Sprintf("%#v", s) != before {
		t.Errorf("%s: Lay has changed %.300v", what, s)
	}
	checksKept(t, what+", Lay", l, m)
	return id, e
}

// ends ends the silence id in both, and holds the result against want.
func ends(t *testing.T, what string, l *List, m *model, id, now int, want api.Errno) {
	t.Helper()
	if e, wantOfModel := l.End(id, now), m.end(id, now); e != want || wantOfModel != want {
		t.Errorf("%s: End of %d at %d is %d, of the model %d, not %d", what, id, now, e, wantOfModel, want)
	}
	checksKept(t, fmt.Sprint(what, ", End of ", id, " at ", now), l, m)
}

// forgets removes from both what has ended, and holds the result against want.
func forgets(t *testing.T, what string, l *List, m *model, now, want int) {
	t.Helper()
	if n, wantOfModel := l.Forget(now), m.forget(now); n != want || wantOfModel != want {
		t.Errorf("%s: Forget at %d is %d, of the model %d, not %d", what, now, n, wantOfModel, want)
	}
	checksKept(t, fmt.Sprint(what, ", Forget at ", now), l, m)
}

// suppresses holds Quiet of l against want.
func suppresses(t *testing.T, what string, l *List, p api.Policy, a alert.Alert, to api.Label, now int, want ...int) {
	t.Helper()
	before := fmt.Sprintf("%#v %#v", p, a)
	if got := l.Quiet(p, a, to, now); !slices.Equal(got, want) {
		t.Errorf("%s: Quiet to %v at %d is %v, not %v", what, to, now, got, want)
	}
	if fmt.Sprintf("%#v %#v", p, a) != before {
		t.Errorf("%s: Quiet has changed its arguments", what)
	}
}

// with returns a list of these silences.
func with(t *testing.T, all ...Silence) *List {
	t.Helper()
	l := New()
	for i, s := range all {
		if id, e := l.Lay(s); id != i+1 || e != api.OK {
			t.Fatalf("Lay of %v is %d, %d", s, id, e)
		}
	}
	return l
}

// checksRight holds Right of s, and Lay of it into a list, against want.
func checksRight(t *testing.T, what string, s Silence, want bool) {
	t.Helper()
	if modelRight(s) != want {
		t.Errorf("%s: the model is wrong of %.300v", what, s)
	}
	if Right(s) != want {
		t.Errorf("%s: Right is not %v of %.300v", what, want, s)
	}
	l, m := New(), &model{}
	lays(t, what, l, m, quietOf(api.Label{}))
	lays(t, what, l, m, s)
	lays(t, what, l, m, quietOf(api.Label{}))
}

// TestRight (P10.1): silences that are valid, at the edges of what they may be.
func TestRight(t *testing.T) {
	checksRight(t, "plain", quietOf(api.Label{Level: 2, Cats: 2}), true)
	for n := 1; n <= 12; n++ {
		s := quietOf(api.Label{})
		s.When = some(n)
		checksRight(t, fmt.Sprint(n, " matchers"), s, true)
	}
	for _, m := range []api.Matcher{
		{Name: "a"}, {Name: "_"}, {Name: "abcdefghijkl", Op: api.MatchNot}, {Name: "a", Value: strings.Repeat("(", 200)}, {Name: "a", Op: api.MatchNot, Value: "*\x00\xff"},
		{Name: "a", Op: api.MatchLike}, {Name: "a", Op: api.MatchLike, Value: strings.Repeat("v", 100)}, {Name: "a", Op: api.MatchNotLike, Value: "h.*|[a-c]+"}, {Name: "a", Op: api.MatchNotLike, Value: strings.Repeat("(", 8) + strings.Repeat(")", 8)},
	} {
		for _, at := range []int{0, 5, 11} {
			s := quietOf(api.Label{})
			s.When = slices.Insert(some(11), at, m)
			checksRight(t, fmt.Sprint(m), s, true)
		}
		s := quietOf(api.Label{})
		s.When = []api.Matcher{m, m}
		checksRight(t, fmt.Sprint(m, " twice"), s, true)
	}
	valid, _ := labels()
	for _, x := range valid {
		checksRight(t, fmt.Sprint(x), quietOf(x), true)
	}
	for _, x := range [][2]int{{0, 1}, {0, 2}, {0, end - 1}, {0, end}, {1, 2}, {1, end}, {5, 6}, {1 << 32, 1<<32 + 1}, {end - 2, end - 1}, {end - 2, end}, {end - 1, end}} {
		s := quietOf(api.Label{})
		s.From, s.To = x[0], x[1]
		checksRight(t, fmt.Sprint(x), s, true)
	}
}

// TestRightOfWrong (P10.1): one thing that is not as it has to be is enough,
// and Lay of it uses up no number.
func TestRightOfWrong(t *testing.T) {
	for what, spoil := range wrong() {
		s := quietOf(api.Label{Level: 2, Cats: 2})
		spoil(&s)
		checksRight(t, what, s, false)
	}
}

// TestRightOfTimes (P10.1): all pairs of times around the edges.
func TestRightOfTimes(t *testing.T) {
	var times []int
	for _, x := range []int{0, 5, 1 << 31, 1 << 32, end / 2, end} {
		times = append(times, x-2, x-1, x, x+1, x+2)
	}
	times = append(times, math.MinInt, math.MinInt+1, -end, math.MaxInt-1, math.MaxInt)
	for _, from := range times {
		for _, to := range times {
			s := quietOf(api.Label{})
			s.From, s.To = from, to
			checksRight(t, "times", s, from >= 0 && to > from && to <= end)
		}
	}
}

// TestNew (P10.1): a list without silences.
func TestNew(t *testing.T) {
	l, m := New(), &model{}
	if l == nil || New() == l {
		t.Fatal("New is no list of its own")
	}
	checksKept(t, "new", l, m)
	suppresses(t, "new", l, api.Policy{}, whole(), top, 6)
	forgets(t, "new", l, m, math.MaxInt, 0)
	ends(t, "new", l, m, 1, 0, api.ErrNone)
	if id, e := l.Lay(quietOf(api.Label{})); id != 1 || e != api.OK {
		t.Errorf("the first number is %d, %d", id, e)
	}
	if id, e := New().Lay(quietOf(api.Label{})); id != 1 || e != api.OK {
		t.Errorf("the first number of another list is %d, %d", id, e)
	}
}

// TestQuota (P10.1): 10 silences with the same label, and not 11, whatever
// others there are.
func TestQuota(t *testing.T) {
	l, m := New(), &model{}
	full := api.Label{Level: 3, Cats: 3}
	others := []api.Label{{Level: 3, Cats: 2}, {Level: 3}, {Level: 2, Cats: 3}, {Level: 4, Cats: 3}, {}, top, {Level: 3, Cats: 1<<31 | 3}}
	for i := range 10 {
		if id, e := lays(t, "one of 10", l, m, quietOf(full)); id != 2*i+1 || e != api.OK {
			t.Errorf("silence %d with the label is %d, %d", i+1, id, e)
		}
		lays(t, "another label", l, m, quietOf(others[i%len(others)]))
	}
	for range 3 {
		if id, e := lays(t, "the eleventh", l, m, quietOf(full)); id != 0 || e != api.ErrFull {
			t.Errorf("the eleventh is %d, %d", id, e)
		}
	}
	s := quietOf(full)
	s.To = s.From
	if id, e := lays(t, "not valid, and no place", l, m, s); id != 0 || e != api.ErrArg {
		t.Errorf("a silence that is not valid is %d, %d", id, e)
	}
	for i, x := range others {
		if id, e := lays(t, "another label", l, m, quietOf(x)); id != 21+i || e != api.OK {
			t.Errorf("a silence of %v is %d, %d", x, id, e)
		}
	}
}

// TestPlaces (P10.1): a place is free again when a silence was removed, not
// when it has ended, and numbers go on.
func TestPlaces(t *testing.T) {
	l, m := New(), &model{}
	for range 10 {
		lays(t, "fill", l, m, quietOf(api.Label{}))
	}
	ends(t, "still there", l, m, 3, 6, api.OK)
	if id, e := lays(t, "after an end", l, m, quietOf(api.Label{})); id != 0 || e != api.ErrFull {
		t.Errorf("Lay after an end that keeps the silence is %d, %d", id, e)
	}
	ends(t, "removed", l, m, 10, 5, api.OK)
	if id, e := lays(t, "after a removal", l, m, quietOf(api.Label{})); id != 11 || e != api.OK {
		t.Errorf("Lay after a removal is %d, %d", id, e)
	}
	if id, e := lays(t, "full again", l, m, quietOf(api.Label{})); id != 0 || e != api.ErrFull {
		t.Errorf("Lay into the full list is %d, %d", id, e)
	}
	forgets(t, "too early", l, m, 5, 0)
	if id, e := lays(t, "nothing forgotten", l, m, quietOf(api.Label{})); id != 0 || e != api.ErrFull {
		t.Errorf("Lay after nothing was forgotten is %d, %d", id, e)
	}
	forgets(t, "one", l, m, 6, 1)
	if id, e := lays(t, "after Forget", l, m, quietOf(api.Label{})); id != 12 || e != api.OK {
		t.Errorf("Lay after Forget is %d, %d", id, e)
	}
	if id, e := lays(t, "full once more", l, m, quietOf(api.Label{})); id != 0 || e != api.ErrFull {
		t.Errorf("Lay into the full list is %d, %d", id, e)
	}
	forgets(t, "all", l, m, 9, 10)
	for i := range 10 {
		if id, e := lays(t, "after all", l, m, quietOf(api.Label{})); id != 13+i || e != api.OK {
			t.Errorf("silence %d after all were forgotten is %d, %d", i+1, id, e)
		}
	}
}

// TestNumbersGoOn (P10.1): numbers are never used again, also when the last
// silence, or the only one, is removed each time.
func TestNumbersGoOn(t *testing.T) {
	l, m := New(), &model{}
	for i := range 40 {
		if id, e := lays(t, "again", l, m, quietOf(api.Label{Level: i % 8})); id != i+1 || e != api.OK {
			t.Errorf("number %d is %d, %d", i+1, id, e)
		}
		lays(t, "not valid", l, m, Silence{})
		if i%2 == 0 {
			ends(t, "again", l, m, i+1, 5, api.OK)
		} else {
			forgets(t, "again", l, m, 9, 1)
		}
	}
}

// TestEnd (P10.1): before From, at From, just behind it, just before To, at To
// and behind it.
func TestEnd(t *testing.T) {
	for _, c := range []struct {
		from, to, now int
		want          api.Errno
		removed       bool
	}{
		{5, 9, math.MinInt, api.OK, true}, {5, 9, -1, api.OK, true}, {5, 9, 0, api.OK, true}, {5, 9, 4, api.OK, true}, {5, 9, 5, api.OK, true},
		{5, 9, 6, api.OK, false}, {5, 9, 7, api.OK, false}, {5, 9, 8, api.OK, false},
		{5, 9, 9, api.ErrNone, false}, {5, 9, 10, api.ErrNone, false}, {5, 9, end, api.ErrNone, false}, {5, 9, math.MaxInt, api.ErrNone, false},
		{0, 1, -1, api.OK, true}, {0, 1, 0, api.OK, true}, {0, 1, 1, api.ErrNone, false}, {0, 2, 0, api.OK, true}, {0, 2, 1, api.OK, false}, {0, 2, 2, api.ErrNone, false},
		{0, end, end - 1, api.OK, false}, {0, end, end, api.ErrNone, false}, {0, end, end + 1, api.ErrNone, false}, {end - 1, end, end - 1, api.OK, true}, {end - 1, end, end, api.ErrNone, false},
	} {
		what := fmt.Sprint("from ", c.from, " to ", c.to)
		l, m := New(), &model{}
		s := quietOf(api.Label{Level: 3})
		s.From, s.To = c.from, c.to
		lays(t, what, l, m, quietOf(api.Label{Level: 3}))
		lays(t, what, l, m, s)
		lays(t, what, l, m, quietOf(api.Label{Level: 3}))
		ends(t, what, l, m, 2, c.now, c.want)
		got, ok := l.Get(2)
		if c.want == api.OK && !c.removed {
			s.To = c.now
		}
		if ok == c.removed || ok && fmt.Sprint(got) != fmt.Sprint(s) {
			t.Errorf("%s: behind End at %d there is %v, %v", what, c.now, got, ok)
		}
		ends(t, what+" again", l, m, 2, c.now, api.ErrNone)
	}
}

// TestEndOfNone (P10.1): numbers that are not there, any more or yet.
func TestEndOfNone(t *testing.T) {
	l, m := New(), &model{}
	for range 4 {
		lays(t, "none", l, m, quietOf(api.Label{}))
	}
	ends(t, "none", l, m, 2, 0, api.OK)
	for _, id := range []int{math.MinInt, -end, -2, -1, 0, 2, 5, 6, end, 1 << 32, 1<<32 + 1, math.MaxInt} {
		for _, now := range []int{math.MinInt, -1, 0, 4, 5, 6, 8, 9, 10, end, math.MaxInt} {
			ends(t, "none", l, m, id, now, api.ErrNone)
		}
	}
	ends(t, "shorter", l, m, 3, 8, api.OK)
	ends(t, "shorter", l, m, 3, 7, api.OK)
	ends(t, "not longer", l, m, 3, 7, api.ErrNone)
	ends(t, "not longer", l, m, 3, 8, api.ErrNone)
	forgets(t, "forgotten", l, m, 7, 1)
	ends(t, "forgotten", l, m, 3, 5, api.ErrNone)
	ends(t, "removed", l, m, 1, 5, api.OK)
	ends(t, "the last", l, m, 4, 6, api.OK)
	ends(t, "the last", l, m, 4, 5, api.OK)
	ends(t, "the last", l, m, 4, 4, api.ErrNone)
}

// TestQuietOfTimes (P10.1): just before From, at From, just before To, at To,
// and when the silence was ended.
func TestQuietOfTimes(t *testing.T) {
	for _, c := range [][2]int{{5, 9}, {5, 6}, {0, 1}, {0, 2}, {0, end}, {end - 1, end}, {1 << 32, 1<<32 + 2}} {
		s := quietOf(api.Label{})
		s.From, s.To = c[0], c[1]
		l := with(t, s)
		for _, now := range []int{math.MinInt, -1, 0, c[0] - 1, c[0], c[0] + 1, c[1] - 1, c[1], c[1] + 1, end, end + 1, math.MaxInt} {
			var want []int
			if now >= c[0] && now < c[1] {
				want = []int{1}
			}
			suppresses(t, fmt.Sprint(c), l, api.Policy{}, whole(), top, now, want...)
		}
	}
	l := with(t, quietOf(api.Label{}), quietOf(api.Label{}))
	if l.End(1, 7) != api.OK {
		t.Error("End")
	}
	suppresses(t, "ended", l, api.Policy{}, whole(), top, 5, 1, 2)
	suppresses(t, "ended", l, api.Policy{}, whole(), top, 6, 1, 2)
	suppresses(t, "ended", l, api.Policy{}, whole(), top, 7, 2)
	if l.End(2, 0) != api.OK || l.Forget(6) != 0 || l.Forget(7) != 1 {
		t.Error("End and Forget")
	}
	suppresses(t, "gone", l, api.Policy{}, whole(), top, 6)
}

// TestQuietOfAlertTimes (P10.1): an alert that does not fire is suppressed,
// too, as the chapter does not ask for its times.
func TestQuietOfAlertTimes(t *testing.T) {
	l := with(t, quietOf(api.Label{}))
	for _, x := range [][2]int{{0, 0}, {0, 3}, {6, 7}, {7, 0}, {100, 200}, {end, 0}, {-1, -2}} {
		a := whole()
		a.From, a.To = x[0], x[1]
		suppresses(t, fmt.Sprint(x), l, api.Policy{}, a, top, 6, 1)
		suppresses(t, fmt.Sprint(x), l, api.Policy{}, a, top, 9)
	}
}

// TestQuietOfLabels (P10.1, P10.2): labels to which a silence flows, and to
// which it does not, and labels that are not valid.
func TestQuietOfLabels(t *testing.T) {
	valid, others := labels()
	for _, x := range valid {
		l := with(t, quietOf(x))
		for _, to := range append(slices.Clone(valid), others...) {
			a := whole()
			a.Label = api.Label{}
			var want []int
			if modelFlows(x, to) {
				want = []int{1}
			}
			suppresses(t, fmt.Sprint("of ", x), l, api.Policy{}, a, to, 6, want...)
		}
	}
	l := with(t, quietOf(api.Label{Level: 5}))
	a := whole()
	a.Label = api.Label{}
	suppresses(t, "the chapter's example", l, api.Policy{}, a, api.Label{Level: 3, Cats: math.MaxUint32}, 6)
	suppresses(t, "the chapter's example", l, api.Policy{}, a, api.Label{Level: 4}, 6)
	suppresses(t, "the chapter's example", l, api.Policy{}, a, api.Label{Level: 5}, 6, 1)
}

// TestQuietOfCut (P10.1): an alert that is not shown to the label is not
// suppressed for it, and fields that are cut away count as ones that are not
// there.
func TestQuietOfCut(t *testing.T) {
	not := func(name, value string) Silence {
		return Silence{When: []api.Matcher{{Name: name, Op: api.MatchNot, Value: value}}, From: 5, To: 9}
	}
	hostIs, teamIs := quietOf(api.Label{}), quietOf(api.Label{})
	hostIs.When, teamIs.When = is("host", "h"), is("team", "t")
	both, gone, like := quietOf(api.Label{}), quietOf(api.Label{}), quietOf(api.Label{})
	both.When, gone.When = is("host", "h", "team", "t"), is("host", "")
	like.When = []api.Matcher{{Name: "host", Op: api.MatchLike, Value: "h?"}}
	l := with(t, hostIs, teamIs, both, gone, like, not("host", "h"), not("zone", "z"))
	low := whole().Label
	p := raises("host", api.Label{Level: 4})
	suppresses(t, "nothing raised", l, api.Policy{}, whole(), low, 6, 1, 2, 3, 5, 7)
	suppresses(t, "all seen", l, p, whole(), api.Label{Level: 4, Cats: 2}, 6, 1, 2, 3, 5, 7)
	suppresses(t, "host cut away", l, p, whole(), api.Label{Level: 3, Cats: 2}, 6, 2, 4, 5, 6, 7)
	suppresses(t, "host cut away", l, p, whole(), low, 6, 2, 4, 5, 6, 7)
	for _, to := range []api.Label{{Level: 1, Cats: 2}, {Level: 7}, {}, {Level: 7, Cats: 1}, {Level: 8, Cats: 2}, {Level: -1, Cats: 2}} {
		suppresses(t, "the alert does not flow there", l, p, whole(), to, 6)
		suppresses(t, "the alert does not flow there", l, api.Policy{}, whole(), to, 6)
	}
	a := whole()
	a.Fields = fields("host", "h")
	suppresses(t, "every field raised", l, p, a, low, 6)
	suppresses(t, "the only field seen", l, p, a, api.Label{Level: 4, Cats: 2}, 6, 1, 5, 7)
	a.Fields = nil
	suppresses(t, "no field", l, api.Policy{}, a, top, 6)
}

// TestQuietOfMatchers (P10.1): all matchers have to match, whatever their Ops.
func TestQuietOfMatchers(t *testing.T) {
	yes := []api.Matcher{{Name: "team", Value: "t"}, {Name: "sev", Op: api.MatchNot, Value: "low"}, {Name: "host", Op: api.MatchLike, Value: "[a-h]"}, {Name: "host", Op: api.MatchNotLike, Value: "x.*"}, {Name: "zone"}}
	no := []api.Matcher{{Name: "team", Value: "T"}, {Name: "sev", Op: api.MatchNot, Value: "high"}, {Name: "host", Op: api.MatchLike, Value: "x.*"}, {Name: "host", Op: api.MatchNotLike, Value: "h"}, {Name: "zone", Op: api.MatchNot}}
	s := quietOf(api.Label{})
	for _, m := range yes {
		s.When = []api.Matcher{m}
		suppresses(t, fmt.Sprint(m), with(t, s), api.Policy{}, whole(), top, 6, 1)
	}
	s.When = yes
	suppresses(t, "all of them", with(t, s), api.Policy{}, whole(), top, 6, 1)
	s.When = some(12)
	suppresses(t, "12 of them", with(t, s), api.Policy{}, whole(), top, 6, 1)
	for _, m := range no {
		s.When = []api.Matcher{m}
		suppresses(t, fmt.Sprint(m), with(t, s), api.Policy{}, whole(), top, 6)
		for at := range len(yes) + 1 {
			s.When = slices.Insert(slices.Clone(yes), at, m)
			suppresses(t, fmt.Sprint(m, " at ", at), with(t, s), api.Policy{}, whole(), top, 6)
		}
		for _, at := range []int{0, 11} {
			s.When = slices.Insert(some(11), at, m)
			suppresses(t, fmt.Sprint(m, " at ", at, " of 12"), with(t, s), api.Policy{}, whole(), top, 6)
		}
	}
}

// TestQuietOfMany (P10.1): the numbers of all silences that suppress an alert
// ascend, in lists so long that no order but an asked one has them so.
func TestQuietOfMany(t *testing.T) {
	l, m := New(), &model{}
	var want []int
	for i := range 200 {
		s := quietOf(api.Label{Level: i % 8, Cats: uint32(i / 8)})
		if i%3 == 0 {
			s.When = is("team", "other")
		}
		id, e := l.Lay(s)
		if wantId, wantE := m.lay(s); id != wantId || e != wantE {
			t.Fatal(id, e)
		}
		if i%3 != 0 && i%5 != 0 {
			want = append(want, id)
		}
	}
	for i := 0; i < 200; i += 5 {
		if e := l.End(i+1, 5); e != m.end(i+1, 5) || e != api.OK {
			t.Fatal(i, e)
		}
	}
	checksKept(t, "many", l, m)
	for range 3 {
		suppresses(t, "many", l, api.Policy{}, whole(), top, 6, want...)
	}
	forgets(t, "many", l, m, 9, 160)
}

// TestQuietOfWrong (P10.1): alerts, policies and times that are not valid are
// taken as they are, but nothing is shown of and to a label that is not valid.
func TestQuietOfWrong(t *testing.T) {
	l := with(t, quietOf(api.Label{}))
	_, others := labels()
	for _, x := range others {
		a := whole()
		suppresses(t, "to a label that is not valid", l, api.Policy{}, a, x, 6)
		a.Label = x
		suppresses(t, fmt.Sprint("an alert of ", x), l, api.Policy{}, a, top, 6)
		suppresses(t, fmt.Sprint("a Raise to ", x), l, raises("team", x), whole(), api.Label{Level: 6, Cats: math.MaxUint32}, 6)
		suppresses(t, fmt.Sprint("a Raise to ", x), l, raises("team", x), whole(), top, 6, 1)
	}
	suppresses(t, "the zero alert", l, api.Policy{}, alert.Alert{}, top, 6)
	a := alert.Alert{Fields: fields("team", "t", "Team", "x", "team", "u")}
	suppresses(t, "an alert that is not valid", l, api.Policy{}, a, api.Label{}, 6, 1)
	slices.Reverse(a.Fields)
	suppresses(t, "an alert that is not valid", l, api.Policy{}, a, api.Label{}, 6)
	twice := raises("team", api.Label{Level: 3})
	twice.Raises = append(twice.Raises, api.Named{Name: "team", Label: api.Label{Level: 7}}, api.Named{})
	suppresses(t, "a policy that is not valid", l, twice, whole(), api.Label{Level: 3, Cats: 2}, 6, 1)
	suppresses(t, "a policy that is not valid", l, twice, whole(), api.Label{Level: 2, Cats: 2}, 6)
}

// TestForget (P10.1): just before To, at To, twice, and of several.
func TestForget(t *testing.T) {
	for _, to := range []int{1, 9, 1 << 32, end} {
		what := fmt.Sprint("to ", to)
		l, m := New(), &model{}
		s := quietOf(api.Label{})
		s.From, s.To = 0, to
		lays(t, what, l, m, s)
		for _, now := range []int{math.MinInt, -1, 0, to - 1} {
			forgets(t, what, l, m, now, 0)
		}
		forgets(t, what, l, m, to, 1)
		for _, now := range []int{to, to + 1, math.MaxInt} {
			forgets(t, what, l, m, now, 0)
		}
		lays(t, what, l, m, s)
		forgets(t, what, l, m, math.MaxInt, 1)
	}
	l, m := New(), &model{}
	for i := range 30 {
		s := quietOf(api.Label{Level: i % 4})
		s.From, s.To = i%2, 5+i%7
		lays(t, "several", l, m, s)
	}
	for _, c := range [][2]int{{4, 0}, {5, 5}, {5, 0}, {6, 5}, {8, 8}, {7, 0}, {10, 8}, {-1, 0}, {100, 4}, {100, 0}} {
		forgets(t, "several", l, m, c[0], c[1])
	}
}

// TestForgetOfLater (P10.1): a silence that has not begun is kept, however far
// away it is, and one that was ended goes at its new end.
func TestForgetOfLater(t *testing.T) {
	l, m := New(), &model{}
	s := quietOf(api.Label{})
	s.From, s.To = end-1, end
	lays(t, "later", l, m, s)
	lays(t, "later", l, m, quietOf(api.Label{}))
	forgets(t, "later", l, m, 8, 0)
	ends(t, "later", l, m, 2, 7, api.OK)
	forgets(t, "later", l, m, 6, 0)
	forgets(t, "later", l, m, 7, 1)
	forgets(t, "later", l, m, end-1, 0)
	forgets(t, "later", l, m, end, 1)
}

// TestNil (P10.1, R7): a nil list.
func TestNil(t *testing.T) {
	var l *List
	for _, s := range []Silence{quietOf(api.Label{}), {}} {
		if id, e := l.Lay(s); id != 0 || e != api.ErrArg {
			t.Errorf("Lay is %d, %d", id, e)
		}
	}
	for _, x := range []int{math.MinInt, -1, 0, 1, 5, math.MaxInt} {
		if e := l.End(x, x); e != api.ErrArg {
			t.Errorf("End is %d", e)
		}
		if q := l.Quiet(api.Policy{}, whole(), top, x); len(q) != 0 {
			t.Errorf("Quiet is %v", q)
		}
		if n := l.Forget(x); n != 0 {
			t.Errorf("Forget is %d", n)
		}
		lacks(t, "nil", l, x)
	}
	if n := l.Numbers(); len(n) != 0 {
		t.Errorf("Numbers are %v", n)
	}
}

// TestZero (T0): a list that New did not make is one without silences.
func TestZero(t *testing.T) {
	l, m := &List{}, &model{}
	checksKept(t, "zero", l, m)
	ends(t, "zero", l, m, 0, 0, api.ErrNone)
	ends(t, "zero", l, m, 1, 0, api.ErrNone)
	forgets(t, "zero", l, m, 9, 0)
	suppresses(t, "zero", l, api.Policy{}, whole(), top, 6)
	lays(t, "zero", l, m, Silence{})
	if id, e := lays(t, "zero", l, m, quietOf(api.Label{})); id != 1 || e != api.OK {
		t.Errorf("Lay is %d, %d", id, e)
	}
	suppresses(t, "zero", l, api.Policy{}, whole(), top, 6, 1)
}

// TestMemory (R4): what was added is not changed by its caller, nor by who was
// told it, and results share no memory.
func TestMemory(t *testing.T) {
	s := quietOf(api.Label{})
	s.When = append(make([]api.Matcher, 0, 8), s.When...)
	l := with(t, s, s)
	want := fmt.Sprint(quietOf(api.Label{}))
	still := func(what string) {
		t.Helper()
		for id := 1; id <= 2; id++ {
			if got, ok := l.Get(id); !ok || fmt.Sprint(got) != want {
				t.Errorf("%s: silence %d is %v, %v", what, id, got, ok)
			}
		}
		suppresses(t, what, l, api.Policy{}, whole(), top, 6, 1, 2)
		if n := l.Numbers(); !slices.Equal(n, []int{1, 2}) {
			t.Errorf("%s: Numbers are %v", what, n)
		}
	}
	s.When[0].Value = "other"
	_ = append(s.When, is("host", "x")...)
	still("the argument is changed")
	got, _ := l.Get(1)
	other, _ := l.Get(1)
	got.When[0].Name, got.From, got.Label.Level = "host", 8, 7
	still("what was told is changed")
	if fmt.Sprint(other) != want {
		t.Errorf("two results share memory: %v", other)
	}
	n, q := l.Numbers(), l.Quiet(api.Policy{}, whole(), top, 6)
	clear(l.Numbers())
	clear(l.Quiet(api.Policy{}, whole(), top, 6))
	still("lists are cleared")
	if l.End(1, 7) != api.OK || l.End(2, 1) != api.OK || l.Forget(7) != 1 || !slices.Equal(n, []int{1, 2}) || !slices.Equal(q, []int{1, 2}) || fmt.Sprint(other) != want {
		t.Errorf("what was told earlier is now %v, %v, %v", n, q, other)
	}
}

// TestTwoLists (R6): lists do not know of each other.
func TestTwoLists(t *testing.T) {
	a, b := &model{}, &model{}
	l, k := New(), New()
	for range 10 {
		lays(t, "one", l, a, quietOf(api.Label{}))
	}
	lays(t, "another", k, b, quietOf(api.Label{}))
	forgets(t, "one", l, a, 9, 10)
	checksKept(t, "another", k, b)
}

// randomLabel returns one of few labels, some of which are not valid.
func randomLabel(r *rand.Rand) api.Label {
	return api.Label{Level: []int{0, 0, 1, 1, 2, 3, 8, -1}[r.Intn(8)], Cats: uint32(r.Intn(4) & r.Intn(4))}
}

// randomSilence returns a silence in which anything may be wrong.
func randomSilence(r *rand.Rand) Silence {
	s := Silence{From: r.Intn(9) - 1, Label: randomLabel(r)}
	s.To = s.From + r.Intn(7)
	for range r.Intn(4) {
		m := api.Matcher{Name: []string{"a", "b", "c"}[r.Intn(3)], Op: r.Intn(4), Value: []string{"", "v", "w", "v|w", "(v"}[r.Intn(5)]}
		if r.Intn(20) == 0 {
			m.Op = []int{-1, 4}[r.Intn(2)]
		}
		s.When = append(s.When, m)
	}
	return s
}

func randomAlert(r *rand.Rand) alert.Alert {
	a := alert.Alert{Source: "s", Label: api.Label{Level: r.Intn(3) * r.Intn(2), Cats: uint32(r.Intn(2) & r.Intn(2))}}
	for _, name := range []string{"a", "b", "c"} {
		if r.Intn(3) > 0 {
			a.Fields = append(a.Fields, api.Field{Name: name, Value: []string{"", "v", "w"}[r.Intn(3)]})
		}
	}
	return a
}

func randomPolicy(r *rand.Rand) api.Policy {
	if r.Intn(2) == 0 {
		return api.Policy{}
	}
	return raises([]string{"a", "b"}[r.Intn(2)], api.Label{Level: r.Intn(4), Cats: uint32(r.Intn(4))})
}

// TestAtRandom (P10.1): sequences of calls in any order, held against the
// model.
func TestAtRandom(t *testing.T) {
	r := rand.New(rand.NewSource(10))
	laid := map[api.Errno]int{}
	ended := map[api.Errno]int{}
	quiet := map[int]int{}
	for run := range 300 {
		l, m := New(), &model{}
		for step := range 120 {
			what := fmt.Sprint("run ", run, ", step ", step)
			now := r.Intn(16) - 2
			switch k := r.Intn(20); {
			case k < 10:
				s := randomSilence(r)
				if run%2 == 0 {
					s.Label = api.Label{Level: step % 2}
				}
				_, e := lays(t, what, l, m, s)
				laid[e]++
			case k < 13:
				id := r.Intn(m.added+4) - 1
				e, want := l.End(id, now), m.end(id, now)
				ended[e]++
				if e != want {
					t.Errorf("%s: End of %d at %d is %d, not %d", what, id, now, e, want)
				}
			case k < 14:
				now -= 6
				if n, want := l.Forget(now), m.forget(now); n != want {
					t.Errorf("%s: Forget at %d is %d, not %d", what, now, n, want)
				}
			default:
				p, a, to := randomPolicy(r), randomAlert(r), randomLabel(r)
				want := m.quiet(p, a, to, now)
				quiet[min(len(want), 2)]++
				suppresses(t, what, l, p, a, to, now, want...)
			}
			checksKept(t, what, l, m)
		}
	}
	for what, n := range map[string]int{"laid": laid[api.OK], "not valid": laid[api.ErrArg], "full": laid[api.ErrFull], "ended": ended[api.OK], "not ended": ended[api.ErrNone], "not suppressed": quiet[0], "suppressed once": quiet[1], "suppressed twice": quiet[2]} {
		if n < 200 {
			t.Errorf("only %d were %s", n, what)
		}
	}
}

// hidden is a list in which there are silences that do not flow to a label,
// beside the list of those that do. ids are the numbers of the latter in it.
type hidden struct {
	to         api.Label
	seen, full *List
	ids        map[int]int
}

// lays adds s to the full list, and to the other one if it flows to the label.
func (h *hidden) lays(t *testing.T, s Silence) {
	t.Helper()
	id, e := h.full.Lay(s)
	if !modelFlows(s.Label, h.to) {
		return
	}
	want, wantE := h.seen.Lay(s)
	if e != wantE {
		t.Errorf("Lay of %v is %d where there are others, and %d where there are not", s, e, wantE)
	}
	if e == api.OK {
		h.ids[want] = id
	}
}

// ends ends a silence that the label may know of in both lists, and one that it
// may not know of in the full one.
func (h *hidden) ends(t *testing.T, seen, now int, r *rand.Rand) {
	t.Helper()
	if id, there := h.ids[seen]; there {
		if e, want := h.full.End(id, now), h.seen.End(seen, now); e != want {
			t.Errorf("End at %d is %d where there are others, and %d where there are not", now, e, want)
		}
	}
	for _, id := range h.full.Numbers() {
		if s, _ := h.full.Get(id); !modelFlows(s.Label, h.to) && r.Intn(4) == 0 {
			h.full.End(id, now)
		}
	}
}

// checks holds what the label is told by either list against the other one.
func (h *hidden) checks(t *testing.T, p api.Policy, a alert.Alert, now int) int {
	t.Helper()
	var want []int
	for _, id := range h.seen.Quiet(p, a, h.to, now) {
		want = append(want, h.ids[id])
	}
	suppresses(t, "with others", h.full, p, a, h.to, now, want...)
	for seen, id := range h.ids {
		s, ok := h.seen.Get(seen)
		if other, okOther := h.full.Get(id); ok != okOther || fmt.Sprint(s) != fmt.Sprint(other) {
			t.Errorf("Get is %v, %v where there are others, and %v, %v where there are not", other, okOther, s, ok)
		}
	}
	return len(want)
}

// TestSecrecy (P10.2): silences that do not flow to a label change nothing of
// what is told there, in sequences of calls in any order.
func TestSecrecy(t *testing.T) {
	r := rand.New(rand.NewSource(11))
	told, beside := 0, 0
	for run := range 200 {
		h := &hidden{to: api.Label{Level: r.Intn(3), Cats: uint32(r.Intn(4))}, seen: New(), full: New(), ids: map[int]int{}}
		for step := range 100 {
			now := r.Intn(14) - 1
			switch k := r.Intn(12); {
			case k < 6:
				s := randomSilence(r)
				if run%2 == 0 {
					s.Label = api.Label{Level: step % 4, Cats: uint32(run / 2 % 4)}
				}
				h.lays(t, s)
			case k < 7:
				h.ends(t, 1+r.Intn(len(h.ids)+1), now, r)
			case k < 8 && step%4 == 0:
				h.full.Forget(now - 4)
				h.seen.Forget(now - 4)
			default:
				told += h.checks(t, randomPolicy(r), randomAlert(r), now)
			}
		}
		beside += len(h.full.Numbers()) - len(h.seen.Numbers())
	}
	if told < 500 || beside < 500 {
		t.Errorf("only %d silences suppressed, beside %d others", told, beside)
	}
}

// TestSecrecyOfFull (P10.2): labels that do not flow to each other, and are
// full, leave each other's places alone.
func TestSecrecyOfFull(t *testing.T) {
	l, m := New(), &model{}
	for _, x := range []api.Label{{Level: 5}, {Level: 3, Cats: 1}, {Level: 3, Cats: 2}, {Level: 3}} {
		for range 12 {
			lays(t, "full", l, m, quietOf(x))
		}
	}
	a := whole()
	a.Label = api.Label{}
	suppresses(t, "full", l, api.Policy{}, a, api.Label{Level: 2, Cats: math.MaxUint32}, 6)
	suppresses(t, "full", l, api.Policy{}, a, api.Label{Level: 3}, 6, 31, 32, 33, 34, 35, 36, 37, 38, 39, 40)
	suppresses(t, "full", l, api.Policy{}, a, api.Label{Level: 4, Cats: 1}, 6, 11, 12, 13, 14, 15, 16, 17, 18, 19, 20, 31, 32, 33, 34, 35, 36, 37, 38, 39, 40)
}

// TestOfLong (T0): silences, alerts and policies of great lengths.
func TestOfLong(t *testing.T) {
	s := quietOf(api.Label{})
	s.When = slices.Repeat(is("team", "t"), 1<<18)
	l := with(t, quietOf(api.Label{}))
	if id, e := l.Lay(s); Right(s) || id != 0 || e != api.ErrArg {
		t.Errorf("a silence of many matchers is %d, %d", id, e)
	}
	s.When = is("team", strings.Repeat("t", 1<<22))
	if Right(s) {
		t.Error("a matcher with a long value is valid")
	}
	a := whole()
	for i := range 20000 {
		a.Fields = append(a.Fields, api.Field{Name: fmt.Sprint("x", i), Value: strings.Repeat("v", 300)})
	}
	p := raises("host", api.Label{Level: 7})
	p.Raises = append(p.Raises, slices.Repeat(p.Raises, 500)...)
	suppresses(t, "long", l, p, a, api.Label{Level: 2, Cats: 2}, 6, 1)
	like := quietOf(api.Label{})
	like.When = []api.Matcher{{Name: "long", Op: api.MatchLike, Value: "(v*)*(v|vv)*(.*.*)*"}}
	a.Fields = fields("long", strings.Repeat("v", 1<<16))
	suppresses(t, "a pattern with many ways", with(t, like), api.Policy{}, a, top, 6, 1)
}
