package alert

import (
	"crypto/sha256"
	"encoding/binary"
	"fmt"
	"math"
	"math/rand"
	"regexp"
	"slices"
	"sort"
	"strings"
	"testing"

	"lychgate/api"
	"lychgate/label"
	"lychgate/policy"
)

// end is the greatest time.
const end = 1 << 40

// modelName is the form of a name.
var modelName = regexp.MustCompile(`\A[a-z_][a-z0-9_]{0,11}\z`)

// fields returns the fields of names and values that take turns.
func fields(s ...string) []api.Field {
	var l []api.Field
	for i := 0; i < len(s); i += 2 {
		l = append(l, api.Field{Name: s[i], Value: s[i+1]})
	}
	return l
}

// someFields returns n fields, valid if there are 1 to 8.
func someFields(n int) []api.Field {
	var l []api.Field
	for i := range n {
		l = append(l, api.Field{Name: fmt.Sprintf("f%06d", i), Value: fmt.Sprint(i)})
	}
	return l
}

// whole returns a valid alert.
func whole() Alert {
	return Alert{Source: "prom", Fields: fields("host", "h", "sev", "high", "team", "t"), Label: api.Label{Level: 2, Cats: 2}, From: 5, To: 9}
}

// raises returns a policy with Raises alone.
func raises(l ...api.Named) api.Policy {
	return api.Policy{Raises: l}
}

// labels are valid labels, and others that are not.
func labels() (valid, others []api.Label) {
	for _, level := range []int{0, 1, 2, 3, 4, 6, 7} {
		for _, cats := range []uint32{0, 1, 2, 3, 7, 1 << 31, math.MaxUint32} {
			valid = append(valid, api.Label{Level: level, Cats: cats})
		}
	}
	for _, level := range []int{-1, 8, 9, math.MinInt, math.MaxInt} {
		others = append(others, api.Label{Level: level}, api.Label{Level: level, Cats: 3}, api.Label{Level: level, Cats: math.MaxUint32})
	}
	return valid, others
}

// shape returns a text that is the same for alerts that are equal in every
// field.
func shape(a Alert) string {
	return strings.ReplaceAll(fmt.Sprintf("%#v", a), "(nil)", "{}")
}

// shapeOfAll returns a text that is the same for a policy and alerts that are.
func shapeOfAll(p api.Policy, l ...Alert) string {
	shapes := []string{fmt.Sprintf("%#v", p)}
	for _, a := range l {
		shapes = append(shapes, shape(a))
	}
	return strings.Join(shapes, "\n")
}

// The model: the chapter once more, by other means.

func modelRightLabel(a api.Label) bool {
	return a.Level >= 0 && a.Level <= 7
}

func modelFlows(a, b api.Label) bool {
	return modelRightLabel(a) && modelRightLabel(b) && a.Level <= b.Level && a.Cats|b.Cats == b.Cats
}

func modelRight(a Alert) bool {
	last := ""
	for _, f := range a.Fields {
		if !modelName.MatchString(f.Name) || len(f.Value) > 200 || f.Name <= last {
			return false
		}
		last = f.Name
	}
	return modelName.MatchString(a.Source) && len(a.Fields) >= 1 && len(a.Fields) <= 8 && modelRightLabel(a.Label) &&
		a.From >= 0 && a.From <= end && (a.To == 0 || a.To > a.From && a.To <= end)
}

func modelId(a Alert) uint64 {
	pieces := []string{a.Source, "\x00"}
	for _, f := range a.Fields {
		pieces = append(pieces, f.Name, "=", f.Value, "\x00")
	}
	d := sha256.Sum256([]byte(strings.Join(pieces, "")))
	return binary.BigEndian.Uint64(d[:8])
}

func modelRaised(p api.Policy, field string, base api.Label) api.Label {
	for _, r := range p.Raises {
		if r.Name != field {
			continue
		}
		if !modelRightLabel(base) || !modelRightLabel(r.Label) {
			return api.Label{Level: 7, Cats: math.MaxUint32}
		}
		return api.Label{Level: max(base.Level, r.Label.Level), Cats: base.Cats | r.Label.Cats}
	}
	return base
}

func modelCut(p api.Policy, a Alert, to api.Label) (Alert, bool) {
	var l []api.Field
	for _, f := range a.Fields {
		if modelFlows(modelRaised(p, f.Name, a.Label), to) {
			l = append(l, f)
		}
	}
	if len(l) == 0 || !modelFlows(a.Label, to) {
		return Alert{}, false
	}
	return Alert{a.Source, l, a.Label, a.From, a.To}, true
}

func modelMerge(a, b Alert) (Alert, bool) {
	if !modelRight(a) || !modelRight(b) || modelId(a) != modelId(b) {
		return Alert{}, false
	}
	c := Alert{Source: a.Source, Fields: a.Fields, Label: api.Label{Level: a.Label.Level, Cats: a.Label.Cats | b.Label.Cats}, From: a.From, To: a.To}
	if b.Label.Level > a.Label.Level {
		c.Label.Level = b.Label.Level
	}
	if b.From < a.From {
		c.From = b.From
	}
	if b.To == 0 || a.To != 0 && b.To > a.To {
		c.To = b.To
	}
	return c, true
}

func modelApart(p api.Policy, l []Alert) map[api.Label][]uint64 {
	sets := map[api.Label]map[uint64]bool{}
	for _, a := range l {
		if !modelRight(a) {
			continue
		}
		to := []api.Label{a.Label}
		for _, f := range a.Fields {
			to = append(to, modelRaised(p, f.Name, a.Label))
		}
		for _, x := range to {
			if sets[x] == nil {
				sets[x] = map[uint64]bool{}
			}
			sets[x][modelId(a)] = true
		}
	}
	apart := map[api.Label][]uint64{}
	for x, set := range sets {
		for id := range set {
			apart[x] = append(apart[x], id)
		}
		sort.Slice(apart[x], func(i, k int) bool { return apart[x][i] < apart[x][k] })
	}
	return apart
}

// checksRight holds Right of a against what is wanted.
func checksRight(t *testing.T, what string, a Alert, want bool) {
	t.Helper()
	if modelRight(a) != want {
		t.Errorf("%s: the model is wrong of %.300s", what, shape(a))
	}
	if Right(a) != want {
		t.Errorf("%s: Right is not %v of %.300s", what, want, shape(a))
	}
}

// checksCut holds Cut of a against the model, and returns what it tells.
func checksCut(t *testing.T, p api.Policy, a Alert, to api.Label) (Alert, bool) {
	t.Helper()
	before := shapeOfAll(p, a)
	c, ok := Cut(p, a, to)
	want, wantOk := modelCut(p, a, to)
	if ok != wantOk || shape(c) != shape(want) {
		t.Errorf("Cut of %.300s to %v, raised %v, is %.300s, %v, not %.300s, %v", shape(a), to, p.Raises, shape(c), ok, shape(want), wantOk)
	}
	if shapeOfAll(p, a) != before {
		t.Errorf("Cut of %.300s to %v: the arguments were changed", shape(a), to)
	}
	return c, ok
}

// checksMerge holds Merge against the model, and returns what it tells.
func checksMerge(t *testing.T, a, b Alert) (Alert, bool) {
	t.Helper()
	before := shapeOfAll(api.Policy{}, a, b)
	c, ok := Merge(a, b)
	want, wantOk := modelMerge(a, b)
	if ok != wantOk || shape(c) != shape(want) {
		t.Errorf("Merge of %.300s and %.300s is %.300s, %v, not %.300s, %v", shape(a), shape(b), shape(c), ok, shape(want), wantOk)
	}
	if shapeOfAll(api.Policy{}, a, b) != before {
		t.Errorf("Merge of %.300s and %.300s: the arguments were changed", shape(a), shape(b))
	}
	return c, ok
}

// checksApart holds Apart against the model, and returns what it tells.
func checksApart(t *testing.T, p api.Policy, l []Alert) map[api.Label][]uint64 {
	t.Helper()
	before := shapeOfAll(p, l...)
	m := Apart(p, l)
	if want := modelApart(p, l); fmt.Sprint(m) != fmt.Sprint(want) {
		t.Errorf("Apart of %.600s is %v, not %v", before, m, want)
	}
	if shapeOfAll(p, l...) != before {
		t.Errorf("Apart of %.600s: the arguments were changed", before)
	}
	return m
}

// wrong returns, by its name, what makes the whole alert one that is not valid.
func wrong() map[string]func(a *Alert) {
	l := map[string]func(a *Alert){
		"nil fields":         func(a *Alert) { a.Fields = nil },
		"empty fields":       func(a *Alert) { a.Fields = []api.Field{} },
		"order":              func(a *Alert) { slices.Reverse(a.Fields) },
		"order of the last":  func(a *Alert) { a.Fields = append(a.Fields, fields("t", "")...) },
		"a field twice":      func(a *Alert) { a.Fields = fields("a", "1", "a", "1") },
		"a field of no name": func(a *Alert) { a.Fields = fields("", "") },
		"long value":         func(a *Alert) { a.Fields[1].Value = strings.Repeat("v", 201) },
		"very long value":    func(a *Alert) { a.Fields[2].Value = strings.Repeat("v", 1<<16+1) },
		"nothing":            func(a *Alert) { *a = Alert{} },
	}
	for _, n := range []int{9, 10, 16, 256, 264, 1000} {
		l[fmt.Sprint(n, " fields")] = func(a *Alert) { a.Fields = someFields(n) }
	}
	for _, name := range []string{"", "P", "Prom", "1", "9a", "-", "a-b", "a b", " a", "a ", "é", "a\n", "a\x00", "\x00", "a=", "\xff", "abcdefghijklm", strings.Repeat("a", 268)} {
		l[fmt.Sprintf("source %q", name)] = func(a *Alert) { a.Source = name }
		l[fmt.Sprintf("field %q", name)] = func(a *Alert) { a.Fields = []api.Field{{Name: name, Value: "v"}} }
	}
	_, others := labels()
	for _, x := range others {
		l[fmt.Sprint("label ", x)] = func(a *Alert) { a.Label = x }
	}
	for _, times := range wrongTimes() {
		l[fmt.Sprint("times ", times)] = func(a *Alert) { a.From, a.To = times[0], times[1] }
	}
	return l
}

func wrongTimes() [][2]int {
	return [][2]int{
		{-1, 0}, {-1, 1}, {-2, -1}, {-1, end}, {math.MinInt, 0}, {math.MinInt, math.MaxInt}, {math.MinInt, 1}, {-end, 0},
		{0, -1}, {0, end + 1}, {0, math.MinInt}, {0, math.MaxInt}, {0, -end},
		{1, 1}, {2, 1}, {5, 5}, {5, 4}, {5, -1}, {5, 1}, {5, math.MinInt},
		{end - 1, end - 1}, {end - 1, end + 1}, {end - 1, 1}, {end, end}, {end, end - 1}, {end, end + 1}, {end, 1}, {end, -1}, {end, math.MaxInt},
		{end + 1, 0}, {end + 1, end + 1}, {end + 1, end + 2}, {end + 1, 1}, {math.MaxInt, 0}, {math.MaxInt, math.MaxInt}, {math.MaxInt, math.MinInt}, {1<<32 + end, 0},
	}
}

func rightTimesOfAll() [][2]int {
	return [][2]int{{0, 0}, {0, 1}, {0, 2}, {0, end - 1}, {0, end}, {1, 0}, {1, 2}, {1, end}, {5, 0}, {5, 6}, {5, 7}, {end - 1, 0}, {end - 1, end}, {end, 0}, {1 << 32, 0}, {1 << 32, 1<<32 + 1}}
}

// TestRight (P9.1): alerts that are valid, at the edges of what they may be.
func TestRight(t *testing.T) {
	checksRight(t, "whole", whole(), true)
	for n := 1; n <= 8; n++ {
		a := whole()
		a.Fields = someFields(n)
		checksRight(t, fmt.Sprint(n, " fields"), a, true)
	}
	for _, name := range []string{"a", "_", "z9", "host", "from", "abcdefghijkl", "____________", "_12345678901"} {
		a := whole()
		a.Source, a.Fields = name, fields(name, "")
		checksRight(t, name, a, true)
	}
	for _, value := range []string{"", " ", "\x00", "=", "a=b\x00", "\xff\x80", "\n", "é", strings.Repeat("v", 199), strings.Repeat("\x00", 200)} {
		a := whole()
		a.Fields[0].Value, a.Fields[2].Value = value, value
		checksRight(t, fmt.Sprintf("value %q", value), a, true)
	}
	valid, _ := labels()
	for _, x := range valid {
		a := whole()
		a.Label = x
		checksRight(t, fmt.Sprint(x), a, true)
	}
	for _, times := range rightTimesOfAll() {
		a := whole()
		a.From, a.To = times[0], times[1]
		checksRight(t, fmt.Sprint(times), a, true)
	}
	checksRight(t, "nearly nothing", Alert{Source: "a", Fields: fields("a", "")}, true)
}

// TestRightOfWrong (P9.1): one thing that is not as it has to be is enough.
func TestRightOfWrong(t *testing.T) {
	for what, spoil := range wrong() {
		a := whole()
		spoil(&a)
		checksRight(t, what, a, false)
	}
}

// TestRightOfTimes (P9.1): all pairs of times around the edges.
func TestRightOfTimes(t *testing.T) {
	var times []int
	for _, x := range []int{0, 5, 1 << 31, 1 << 32, end / 2, end} {
		times = append(times, x-2, x-1, x, x+1, x+2)
	}
	times = append(times, math.MinInt, math.MinInt+1, -end, math.MaxInt-1, math.MaxInt)
	for _, from := range times {
		for _, to := range times {
			a := whole()
			a.From, a.To = from, to
			checksRight(t, "times", a, from >= 0 && from <= end && (to == 0 || to > from && to <= end))
		}
	}
}

// TestId (P9.1): digests that were worked out by another program, from the
// bytes that the chapter names.
func TestId(t *testing.T) {
	for _, c := range []struct {
		a    Alert
		want uint64
	}{
		{Alert{}, 0x6e340b9cffb37a98},
		{Alert{Source: "prom"}, 0xc42489e7bda4f602},
		{Alert{Source: "prom", Fields: fields("host", "h")}, 0x167545115c7f1708},
		{Alert{Source: "prom", Fields: fields("host", "h", "team", "t")}, 0xe1b227c52af79016},
		{Alert{Source: "prom", Fields: fields("a", "")}, 0x4ef349455667fa8f},
	} {
		if got := Id(c.a); got != c.want || modelId(c.a) != c.want {
			t.Errorf("Id of %s is %#x, not %#x", shape(c.a), got, c.want)
		}
	}
}

// TestIdOfOther (P9.1): the id depends on the source and on the fields, in
// their order, and on nothing else, also of alerts that are not valid.
func TestIdOfOther(t *testing.T) {
	all := map[uint64]string{}
	for _, a := range []Alert{
		{}, whole(), {Source: "prom"}, {Source: "pron"}, {Source: "P"}, {Source: "prom=", Fields: fields("a", "")}, {Source: "prom\x00"},
		{Source: "prom", Fields: fields("a", "")}, {Source: "prom", Fields: fields("", "a")}, {Source: "prom", Fields: fields("a", "b")}, {Source: "prom", Fields: fields("b", "a")}, {Source: "prom", Fields: fields("a", "=")},
		{Source: "prom", Fields: fields("a", "b", "c", "d")}, {Source: "prom", Fields: fields("c", "d", "a", "b")}, {Source: "prom", Fields: fields("a", "b", "a", "b")}, {Source: "prom", Fields: fields("a", "b", "c", "")},
		{Source: "proma", Fields: fields("a", "")}, {Source: "", Fields: fields("a", "")}, {Source: "prom", Fields: fields("", "")}, {Source: "prom", Fields: fields("", "", "", "")},
		{Source: "prom", Fields: fields("a", "\xff\x80")}, {Source: "prom", Fields: fields("a", "\ufffd")}, {Source: "prom", Fields: fields("a", strings.Repeat("x", 200))}, {Source: "prom", Fields: someFields(9)}, {Source: "prom", Fields: someFields(8)},
	} {
		id := Id(a)
		if id != modelId(a) {
			t.Errorf("Id of %s is %#x, not %#x", shape(a), id, modelId(a))
		}
		if other, there := all[id]; there {
			t.Errorf("%s and %s have the same id", shape(a), other)
		}
		all[id] = shape(a)
		b := a
		b.Label, b.From, b.To = api.Label{Level: -1, Cats: 9}, math.MinInt, math.MaxInt
		if Id(b) != id {
			t.Errorf("%s and %s have different ids", shape(a), shape(b))
		}
	}
}

// TestIdOfBytes (P9.1): bytes 0 and 61 in a value make the bytes of other
// fields, which then have the same id.
func TestIdOfBytes(t *testing.T) {
	one := Alert{Source: "prom", Fields: fields("a", "x\x00b=y")}
	two := Alert{Source: "prom", Fields: fields("a", "x", "b", "y")}
	if Id(one) != Id(two) || !Right(one) || !Right(two) {
		t.Error("the bytes of both alerts are the same, but not their ids")
	}
	m, ok := checksMerge(t, one, two)
	if !ok || !slices.Equal(m.Fields, one.Fields) {
		t.Error(m, ok)
	}
	m, ok = checksMerge(t, two, one)
	if !ok || !slices.Equal(m.Fields, two.Fields) {
		t.Error(m, ok)
	}
}

// TestFires (P9.1): just before From, at From, just before To, at To, without
// an end, and of alerts whose times are not valid.
func TestFires(t *testing.T) {
	for _, c := range []struct {
		from, to, now int
		want          bool
	}{
		{5, 9, 4, false}, {5, 9, 5, true}, {5, 9, 6, true}, {5, 9, 8, true}, {5, 9, 9, false}, {5, 9, 10, false}, {5, 9, -5, false}, {5, 9, 0, false},
		{5, 6, 4, false}, {5, 6, 5, true}, {5, 6, 6, false},
		{5, 0, 4, false}, {5, 0, 5, true}, {5, 0, 6, true}, {5, 0, end, true}, {5, 0, end + 1, true}, {5, 0, math.MaxInt, true}, {5, 0, -1, false}, {5, 0, math.MinInt, false},
		{0, 0, -1, false}, {0, 0, 0, true}, {0, 0, 1, true}, {0, 0, math.MaxInt, true}, {0, 0, math.MinInt, false},
		{0, 1, -1, false}, {0, 1, 0, true}, {0, 1, 1, false}, {0, end, end - 1, true}, {0, end, end, false}, {0, end, end + 1, false}, {0, end, math.MaxInt, false},
		{end, 0, end - 1, false}, {end, 0, end, true}, {end, 0, end + 1, true}, {end - 1, end, end - 1, true}, {end - 1, end, end, false},
		{5, 5, 4, false}, {5, 5, 5, false}, {5, 5, 6, false}, {9, 5, 6, false}, {9, 5, 9, false}, {5, -1, 5, false}, {-5, -1, -6, false}, {-5, -1, -5, true}, {-5, -1, -2, true}, {-5, -1, -1, false}, {-5, 0, 7, true}, {-5, 0, -5, true},
		{math.MinInt, math.MaxInt, 0, true}, {math.MinInt, math.MaxInt, math.MinInt, true}, {math.MinInt, math.MaxInt, math.MaxInt, false}, {math.MaxInt, 0, math.MaxInt, true}, {math.MaxInt, 0, math.MaxInt - 1, false}, {math.MaxInt, math.MinInt, 0, false},
	} {
		a := whole()
		a.From, a.To = c.from, c.to
		if Fires(a, c.now) != c.want || Fires(Alert{From: c.from, To: c.to}, c.now) != c.want {
			t.Errorf("Fires of %d to %d at %d is not %v", c.from, c.to, c.now, c.want)
		}
	}
	for from := -3; from <= 3; from++ {
		for to := -3; to <= 3; to++ {
			for now := -4; now <= 4; now++ {
				want := !(from > now) && (to == 0 || to-now >= 1)
				if Fires(Alert{From: from, To: to}, now) != want {
					t.Errorf("Fires of %d to %d at %d is not %v", from, to, now, want)
				}
			}
		}
	}
}

// TestCut (P9.1): an alert that does not flow to the label, one whose every
// field is raised above it, and one of whose fields some are seen.
func TestCut(t *testing.T) {
	p := raises(api.Named{Name: "host", Label: api.Label{Level: 4}}, api.Named{Name: "note", Label: api.Label{Cats: 8}}, api.Named{Name: "sev", Label: api.Label{Level: 1}}, api.Named{Name: "zone", Label: api.Label{Level: 5, Cats: 1}})
	a := Alert{Source: "prom", Fields: fields("area", "a", "host", "h", "note", "n", "sev", "high", "team", "t", "zone", "z"), Label: api.Label{Level: 2, Cats: 2}, From: 5, To: 9}
	for _, c := range []struct {
		to   api.Label
		want string
	}{
		{api.Label{Level: 2, Cats: 2}, "area sev team"},
		{api.Label{Level: 3, Cats: 2}, "area sev team"},
		{api.Label{Level: 3, Cats: 7}, "area sev team"},
		{api.Label{Level: 4, Cats: 2}, "area host sev team"},
		{api.Label{Level: 2, Cats: 10}, "area note sev team"},
		{api.Label{Level: 4, Cats: 10}, "area host note sev team"},
		{api.Label{Level: 5, Cats: 2}, "area host sev team"},
		{api.Label{Level: 5, Cats: 3}, "area host sev team zone"},
		{api.Label{Level: 4, Cats: 11}, "area host note sev team"},
		{api.Label{Level: 7, Cats: math.MaxUint32}, "area host note sev team zone"},
		{api.Label{Level: 1, Cats: 2}, ""},
		{api.Label{Level: 2}, ""},
		{api.Label{Level: 7, Cats: 1}, ""},
		{api.Label{}, ""},
		{api.Label{Level: 8, Cats: 2}, ""},
		{api.Label{Level: -1, Cats: 2}, ""},
	} {
		b, ok := checksCut(t, p, a, c.to)
		var names []string
		for _, f := range b.Fields {
			names = append(names, f.Name)
		}
		if ok != (c.want != "") || strings.Join(names, " ") != c.want {
			t.Errorf("Cut to %v is %v, %v, not %q", c.to, b, ok, c.want)
		}
		if ok && (b.Source != "prom" || b.Label != a.Label || b.From != 5 || b.To != 9 || !Right(b)) {
			t.Errorf("Cut to %v is %v", c.to, b)
		}
	}
	for _, names := range []string{"host", "zone", "host note", "host zone", "host note zone"} {
		b := a
		b.Fields = nil
		for _, name := range strings.Fields(names) {
			b.Fields = append(b.Fields, api.Field{Name: name, Value: "v"})
		}
		if c, ok := checksCut(t, p, b, api.Label{Level: 3, Cats: 2}); ok {
			t.Errorf("Cut of %s is %v", names, c)
		}
		if c, ok := checksCut(t, p, b, api.Label{Level: 5, Cats: 11}); !ok || !Same(b, c) {
			t.Errorf("Cut of %s is %v, %v", names, c, ok)
		}
	}
}

// TestCutOfWrong (P9.1): alerts and policies that are not valid are cut like
// others, but nothing is shown of and to a label that is not valid.
func TestCutOfWrong(t *testing.T) {
	valid, others := labels()
	all := append(slices.Clone(valid), others...)
	policies := []api.Policy{
		{}, raises(api.Named{}), raises(api.Named{Name: "host", Label: api.Label{Level: 8}}, api.Named{Name: "sev", Label: api.Label{Level: -1, Cats: 1}}),
		raises(api.Named{Name: "host", Label: api.Label{Level: 3}}, api.Named{Name: "host", Label: api.Label{Level: 7}}, api.Named{Name: "Sev", Label: api.Label{Level: 7}}),
		raises(api.Named{Name: "host"}, api.Named{Name: "sev"}, api.Named{Name: "team"}),
		{Sources: []api.Named{{Name: "host", Label: api.Label{Level: 7}}}, People: []api.Named{{Name: "sev", Label: api.Label{Level: 7}}}, Receivers: []api.Named{{Name: "team", Label: api.Label{Level: 7}}}},
	}
	alerts := []Alert{whole(), {}, {Fields: fields("", "")}, {Fields: fields("host", "1", "sev", "2", "host", "3", "Sev", "4")}, {Source: "P", Fields: someFields(9), From: -1, To: -2}}
	for _, spoil := range wrong() {
		a := whole()
		spoil(&a)
		alerts = append(alerts, a)
	}
	for i, a := range alerts {
		p := policies[i%len(policies)]
		for _, to := range all {
			checksCut(t, p, a, to)
			a.Label = all[i%len(all)]
			checksCut(t, p, a, to)
		}
	}
	for _, p := range policies {
		for _, base := range all {
			for _, to := range all {
				a := whole()
				a.Label = base
				checksCut(t, p, a, to)
			}
		}
	}
	p := raises(api.Named{Name: "host", Label: api.Label{Level: 1}})
	for _, x := range others {
		a := whole()
		if c, ok := Cut(p, a, x); ok {
			t.Errorf("Cut to %v is %v", x, c)
		}
		a.Label = x
		if c, ok := Cut(p, a, api.Label{Level: 7, Cats: math.MaxUint32}); ok {
			t.Errorf("Cut of an alert of %v is %v", x, c)
		}
	}
}

// TestCutOfMore (P9.2): a label to which more flows is shown no fewer fields.
func TestCutOfMore(t *testing.T) {
	r := rand.New(rand.NewSource(9))
	shown := 0
	for range 20000 {
		p, a := randomPolicy(r), randomAlert(r)
		x, y := randomLabel(r), randomLabel(r)
		if r.Intn(2) == 0 {
			y = label.Join(x, y)
		}
		b, ok := checksCut(t, p, a, x)
		c, okMore := checksCut(t, p, a, y)
		if !modelFlows(x, y) || !ok {
			continue
		}
		shown++
		if !okMore || len(c.Fields) < len(b.Fields) {
			t.Errorf("%v is shown %s, but %v is shown %s", x, shape(b), y, shape(c))
		}
		for _, f := range b.Fields {
			if !slices.Contains(c.Fields, f) {
				t.Errorf("%v is not shown %v", y, f)
			}
		}
	}
	if shown < 1000 {
		t.Errorf("only %d alerts were shown", shown)
	}
}

// TestCutTwice (P9.2): cutting twice is the same as cutting once to the Meet of
// both labels, and so are three times, the other order, and the same label.
func TestCutTwice(t *testing.T) {
	p := raises(api.Named{Name: "host", Label: api.Label{Level: 4}}, api.Named{Name: "sev", Label: api.Label{Level: 3, Cats: 1}}, api.Named{Name: "team", Label: api.Label{Cats: 3}})
	valid, _ := labels()
	for _, base := range []api.Label{{}, {Level: 2}, {Level: 2, Cats: 2}, {Cats: 1}} {
		a := whole()
		a.Label = base
		a.Fields = append(fields("area", "a"), a.Fields...)
		for _, bare := range []bool{false, true} {
			if bare {
				a.Fields = a.Fields[1:]
			}
			for _, x := range valid {
				for _, y := range valid {
					cutsTwice(t, p, a, x, y)
				}
			}
		}
	}
	r := rand.New(rand.NewSource(10))
	for range 10000 {
		cutsTwice(t, randomPolicy(r), randomAlert(r), randomLabel(r), randomLabel(r))
	}
}

// cutsTwice holds a that is cut to x, and then to y, against a that is cut once.
func cutsTwice(t *testing.T, p api.Policy, a Alert, x, y api.Label) {
	t.Helper()
	want, wantOk := Cut(p, a, label.Meet(x, y))
	b, ok := Cut(p, a, x)
	if ok {
		b, ok = Cut(p, b, y)
	}
	if ok != wantOk || !Same(b, want) {
		t.Errorf("Cut of %s to %v and then %v is %s, %v, but Cut to both is %s, %v", shape(a), x, y, shape(b), ok, shape(want), wantOk)
	}
	if again, okAgain := Cut(p, want, label.Meet(x, y)); okAgain != wantOk || !Same(again, want) {
		t.Errorf("Cut of %s to %v twice is %s, %v", shape(a), label.Meet(x, y), shape(again), okAgain)
	}
}

// TestMerge (P9.1): alerts with the same id whose From, To and labels differ.
func TestMerge(t *testing.T) {
	for _, c := range []struct{ from1, to1, from2, to2, from, to int }{
		{5, 9, 5, 9, 5, 9}, {5, 9, 3, 7, 3, 9}, {3, 7, 5, 9, 3, 9}, {3, 9, 5, 7, 3, 9}, {5, 7, 3, 9, 3, 9},
		{5, 0, 3, 7, 3, 0}, {5, 9, 3, 0, 3, 0}, {3, 0, 5, 9, 3, 0}, {3, 9, 5, 0, 3, 0}, {5, 0, 3, 0, 3, 0}, {3, 0, 5, 0, 3, 0}, {0, 0, 0, 0, 0, 0},
		{0, 1, 8, 9, 0, 9}, {8, 9, 0, 1, 0, 9}, {0, end, end, 0, 0, 0}, {0, 1, end - 1, end, 0, end}, {end, 0, end, 0, end, 0}, {end, 0, 0, 1, 0, 0},
	} {
		a, b := whole(), whole()
		a.From, a.To, b.From, b.To = c.from1, c.to1, c.from2, c.to2
		m, ok := checksMerge(t, a, b)
		if !ok || m.From != c.from || m.To != c.to || !Right(m) || Id(m) != Id(a) || m.Label != a.Label || m.Source != "prom" || !slices.Equal(m.Fields, a.Fields) {
			t.Errorf("Merge of %v is %v, %v", c, m, ok)
		}
	}
	valid, others := labels()
	all := append(slices.Clone(valid), others...)
	for _, x := range all {
		for _, y := range all {
			a, b := whole(), whole()
			a.Label, b.Label = x, y
			m, ok := checksMerge(t, a, b)
			if ok != (modelRightLabel(x) && modelRightLabel(y)) || ok && m.Label != label.Join(x, y) {
				t.Errorf("Merge of %v and %v is %v, %v", x, y, m.Label, ok)
			}
		}
	}
}

// TestMergeOfOthers (P9.1): alerts with different ids, and alerts of which one
// or both are not valid, are not merged.
func TestMergeOfOthers(t *testing.T) {
	for what, change := range map[string]func(a *Alert){
		"source": func(a *Alert) { a.Source = "pron" }, "value": func(a *Alert) { a.Fields[2].Value = "" }, "name": func(a *Alert) { a.Fields[0].Name = "hosts" },
		"one field fewer": func(a *Alert) { a.Fields = a.Fields[:2] }, "one field more": func(a *Alert) { a.Fields = append(a.Fields, fields("zone", "")...) },
	} {
		b := whole()
		change(&b)
		if !Right(b) {
			t.Errorf("%s: the alert is not valid", what)
		}
		for _, l := range [][2]Alert{{whole(), b}, {b, whole()}} {
			if m, ok := checksMerge(t, l[0], l[1]); ok || shape(m) != shape(Alert{}) {
				t.Errorf("%s: Merge is %v, %v", what, m, ok)
			}
		}
	}
	for what, spoil := range wrong() {
		b := whole()
		spoil(&b)
		for _, l := range [][2]Alert{{whole(), b}, {b, whole()}, {b, b}} {
			if m, ok := checksMerge(t, l[0], l[1]); ok || shape(m) != shape(Alert{}) {
				t.Errorf("%s: Merge is %v, %v", what, m, ok)
			}
		}
	}
	for _, times := range wrongTimes() {
		for _, right := range rightTimesOfAll() {
			a, b := whole(), whole()
			a.From, a.To, b.From, b.To = times[0], times[1], right[0], right[1]
			checksMerge(t, a, b)
			checksMerge(t, b, a)
		}
	}
}

// TestApart (P9.1): what belongs to which label, with fields that are raised
// and fields that are not.
func TestApart(t *testing.T) {
	p := raises(api.Named{Name: "host", Label: api.Label{Level: 4}}, api.Named{Name: "sev", Label: api.Label{Level: 1}}, api.Named{Name: "zone", Label: api.Label{Level: 4, Cats: 2}})
	low, high := api.Label{Level: 2, Cats: 2}, api.Label{Level: 4, Cats: 2}
	a := whole()
	for _, c := range []struct {
		names  string
		labels []api.Label
	}{
		{"area", []api.Label{low}}, {"area sev team", []api.Label{low}}, {"sev", []api.Label{low}},
		{"host", []api.Label{low, high}}, {"area host", []api.Label{low, high}}, {"host zone", []api.Label{low, high}}, {"area host sev team zone", []api.Label{low, high}},
	} {
		a.Fields = nil
		for _, name := range strings.Fields(c.names) {
			a.Fields = append(a.Fields, api.Field{Name: name, Value: "v"})
		}
		want := map[api.Label][]uint64{}
		for _, x := range c.labels {
			want[x] = []uint64{Id(a)}
		}
		if m := checksApart(t, p, []Alert{a}); fmt.Sprint(m) != fmt.Sprint(want) {
			t.Errorf("Apart of %s is %v, not %v", c.names, m, want)
		}
		if m := checksApart(t, api.Policy{}, []Alert{a, a, a}); fmt.Sprint(m) != fmt.Sprint(map[api.Label][]uint64{low: {Id(a)}}) {
			t.Errorf("Apart of %s three times, without Raises, is %v", c.names, m)
		}
	}
	for _, l := range [][]Alert{nil, {}, {{}}, {{}, {}, {Source: "P"}}} {
		if m := checksApart(t, p, l); len(m) != 0 {
			t.Errorf("Apart of %v is %v", l, m)
		}
	}
}

// TestApartOfMany (P9.1): two alerts of the same id belong to the labels of
// both, ids ascend, each is there once, and alerts that are not valid are left
// out wherever they stand.
func TestApartOfMany(t *testing.T) {
	p := raises(api.Named{Name: "host", Label: api.Label{Level: 4}})
	a, b := whole(), whole()
	b.Label, b.From, b.To = api.Label{Level: 1}, 0, 0
	id := Id(a)
	want := map[api.Label][]uint64{a.Label: {id}, b.Label: {id}, {Level: 4, Cats: 2}: {id}, {Level: 4}: {id}}
	if m := checksApart(t, p, []Alert{a, b, a, b}); fmt.Sprint(m) != fmt.Sprint(want) {
		t.Errorf("Apart of two alerts with the same id is %v, not %v", m, want)
	}
	b.Label = api.Label{Level: 4, Cats: 2}
	want = map[api.Label][]uint64{a.Label: {id}, b.Label: {id}}
	if m := checksApart(t, p, []Alert{b, a}); fmt.Sprint(m) != fmt.Sprint(want) {
		t.Errorf("Apart of an alert at the label of another's field is %v, not %v", m, want)
	}
	var many []Alert
	for i := range 60 {
		c := whole()
		c.Fields[0].Value = fmt.Sprint(i % 40)
		c.Label.Level = i % 3
		many = append(many, c)
	}
	for what, spoil := range wrong() {
		c := whole()
		c.Fields[0].Value = what
		c.Label.Level = 6
		spoil(&c)
		many = append(many, c)
	}
	r := rand.New(rand.NewSource(11))
	for range 5 {
		m := checksApart(t, p, many)
		if len(m) != 4 || len(m[api.Label{Level: 4, Cats: 2}]) != 40 {
			t.Errorf("Apart of many is %v", m)
		}
		for x, ids := range m {
			for i := range ids {
				if i > 0 && ids[i-1] >= ids[i] {
					t.Errorf("the ids of %v do not ascend: %v", x, ids)
				}
			}
		}
		r.Shuffle(len(many), func(i, k int) { many[i], many[k] = many[k], many[i] })
	}
}

// TestApartOfWrong (P9.1): a policy that is not valid raises fields as layer 8
// says of it.
func TestApartOfWrong(t *testing.T) {
	for _, p := range []api.Policy{
		raises(api.Named{Name: "host", Label: api.Label{Level: 8}}), raises(api.Named{Name: "host", Label: api.Label{Level: math.MinInt}}, api.Named{Name: "", Label: api.Label{Level: 5}}),
		raises(api.Named{Name: "host", Label: api.Label{Level: 3}}, api.Named{Name: "host", Label: api.Label{Level: 4}}, api.Named{Name: "team", Label: api.Label{Level: 9}}),
		{Raises: slices.Repeat([]api.Named{{Name: "team", Label: api.Label{Level: 7, Cats: 1}}}, 100), Routes: make([]api.Route, 3)},
	} {
		if policy.Check(p) == api.OK {
			t.Error("the policy is valid")
		}
		checksApart(t, p, []Alert{whole(), {}, {Source: "a", Fields: fields("host", "")}})
	}
}

// TestSame (P9.1): alerts that differ in one thing, fields that are empty or
// nil, and alerts that are not valid.
func TestSame(t *testing.T) {
	all := []Alert{whole(), whole(), {}, {Fields: []api.Field{}}}
	for what, change := range map[string]func(a *Alert){
		"source": func(a *Alert) { a.Source = "pron" }, "no source": func(a *Alert) { a.Source = "" },
		"value": func(a *Alert) { a.Fields[2].Value = "T" }, "value of the first": func(a *Alert) { a.Fields[0].Value += " " }, "name": func(a *Alert) { a.Fields[1].Name = "sew" },
		"fields turned": func(a *Alert) { slices.Reverse(a.Fields) }, "last field gone": func(a *Alert) { a.Fields = a.Fields[:2] }, "first field gone": func(a *Alert) { a.Fields = a.Fields[1:] }, "last field twice": func(a *Alert) { a.Fields = append(a.Fields, a.Fields[2]) },
		"level": func(a *Alert) { a.Label.Level++ }, "cats": func(a *Alert) { a.Label.Cats |= 1 << 31 }, "from": func(a *Alert) { a.From-- }, "to": func(a *Alert) { a.To++ }, "no end": func(a *Alert) { a.To = 0 }, "times swapped": func(a *Alert) { a.From, a.To = a.To, a.From },
		"bytes of one id": func(a *Alert) { a.Fields = fields("host", "h\x00sev=high", "team", "t") },
	} {
		a := whole()
		change(&a)
		if Same(a, whole()) || Same(whole(), a) || !Same(a, a) {
			t.Errorf("%s: Same is wrong", what)
		}
		all = append(all, a)
	}
	for _, spoil := range wrong() {
		a := whole()
		spoil(&a)
		all = append(all, a)
	}
	for _, a := range all {
		for _, b := range all {
			if want := shape(a) == shape(b); Same(a, b) != want {
				t.Errorf("Same is not %v of %.300s and %.300s", want, shape(a), shape(b))
			}
		}
	}
}

// TestMemory (R4): what is returned shares no memory with the arguments, nor
// with what was returned earlier.
func TestMemory(t *testing.T) {
	a, p := whole(), raises(api.Named{Name: "host", Label: api.Label{Level: 4}})
	a.Fields = append(make([]api.Field, 0, 16), a.Fields...)
	before := shape(a)
	top := api.Label{Level: 7, Cats: math.MaxUint32}
	b, _ := Cut(api.Policy{}, a, top)
	c, _ := Cut(p, a, top)
	d, _ := Cut(p, a, a.Label)
	m, _ := Merge(a, a)
	n, _ := Merge(a, whole())
	kept := []string{shape(b), shape(c), shape(d), shape(m), shape(n)}
	l := []*Alert{&b, &c, &d, &m, &n}
	for i, x := range l {
		for k := range x.Fields {
			x.Fields[k] = api.Field{}
		}
		x.Fields = append(x.Fields, fields("mine", "")...)
		if shape(a) != before {
			t.Errorf("result %d shares memory with the argument", i)
		}
		for k := i + 1; k < len(l); k++ {
			if shape(*l[k]) != kept[k] {
				t.Errorf("result %d shares memory with result %d", k, i)
			}
		}
	}
	m, _ = Merge(a, a)
	b, _ = Cut(p, a, top)
	a.Fields[0].Value = "other"
	if m.Fields[0].Value != "h" || b.Fields[0].Value != "h" {
		t.Error("a result changes with the argument")
	}
}

// TestMemoryOfApart (R4): each call returns a map and lists of its own, which
// may be changed and appended to.
func TestMemoryOfApart(t *testing.T) {
	p := raises(api.Named{Name: "host", Label: api.Label{Level: 4}})
	l := []Alert{whole(), whole()}
	l[1].Source = "cron"
	m, n := Apart(p, l), Apart(p, l)
	want := fmt.Sprint(n)
	for x, ids := range m {
		others := map[api.Label]string{}
		for y, more := range m {
			others[y] = fmt.Sprint(more)
		}
		more := append(ids, 0, 0)
		clear(more)
		for y := range m {
			if y != x && fmt.Sprint(m[y]) != others[y] {
				t.Errorf("the ids of %v and of %v share memory", x, y)
			}
		}
	}
	clear(m)
	if fmt.Sprint(n) != want || fmt.Sprint(Apart(p, l)) != want {
		t.Error("two results share memory")
	}
	Apart(p, nil)[api.Label{}] = []uint64{1}
	if len(Apart(p, nil)) != 0 {
		t.Error("two empty results share memory")
	}
}

// randomLabel returns one of few labels, some of which are not valid.
func randomLabel(r *rand.Rand) api.Label {
	return api.Label{Level: r.Intn(6), Cats: uint32(r.Intn(4))}
}

func randomPolicy(r *rand.Rand) api.Policy {
	var p api.Policy
	for _, name := range []string{"a", "b", "c", "d"} {
		if r.Intn(2) == 0 {
			p.Raises = append(p.Raises, api.Named{Name: name, Label: randomLabel(r)})
		}
	}
	r.Shuffle(len(p.Raises), func(i, k int) { p.Raises[i], p.Raises[k] = p.Raises[k], p.Raises[i] })
	return p
}

func randomAlert(r *rand.Rand) Alert {
	a := Alert{Source: []string{"s", "t"}[r.Intn(2)], Label: api.Label{Level: r.Intn(3), Cats: uint32(r.Intn(4) & r.Intn(4))}, From: r.Intn(4), To: []int{0, 4, 5, 6}[r.Intn(4)]}
	for _, name := range []string{"a", "b", "c", "d", "e"} {
		if r.Intn(5) < 2 {
			a.Fields = append(a.Fields, api.Field{Name: name, Value: []string{"", "v"}[r.Intn(2)]})
		}
	}
	return a
}

// randomWrong returns an alert in which anything may be wrong.
func randomWrong(r *rand.Rand) Alert {
	a := randomAlert(r)
	switch r.Intn(8) {
	case 0:
		a.Label.Level = []int{-1, 8, 7}[r.Intn(3)]
	case 1:
		a.From = []int{-1, 4, 5, end, end + 1}[r.Intn(5)]
	case 2:
		a.To = []int{-1, 1, 2, end, end + 1}[r.Intn(5)]
	case 3:
		a.Source = []string{"", "S", "s-", "abcdefghijklm", "_"}[r.Intn(5)]
	case 4:
		r.Shuffle(len(a.Fields), func(i, k int) { a.Fields[i], a.Fields[k] = a.Fields[k], a.Fields[i] })
	case 5:
		a.Fields = someFields(7 + r.Intn(3))
	}
	return a
}

// TestAtRandom (P9.1): alerts and policies at random, held against the model.
func TestAtRandom(t *testing.T) {
	r := rand.New(rand.NewSource(12))
	count := map[bool]int{}
	for range 20000 {
		p, l := randomPolicy(r), []Alert{randomWrong(r), randomWrong(r), randomWrong(r)}
		for _, a := range l {
			checksRight(t, "at random", a, modelRight(a))
			count[Right(a)]++
			if Id(a) != modelId(a) {
				t.Errorf("Id of %s is %#x, not %#x", shape(a), Id(a), modelId(a))
			}
			checksCut(t, p, a, randomLabel(r))
		}
		checksMerge(t, l[0], l[1])
		like := l[0]
		like.From, like.To, like.Label = l[1].From, l[1].To, l[1].Label
		checksMerge(t, l[0], like)
		checksApart(t, p, l[:r.Intn(4)])
	}
	if count[true] < 10000 || count[false] < 10000 {
		t.Errorf("%d alerts are valid, and %d are not", count[true], count[false])
	}
}

// TestOfLong (T0): alerts, policies and lists of great lengths.
func TestOfLong(t *testing.T) {
	a := whole()
	a.Fields = someFields(20000)
	a.Fields[7].Value = strings.Repeat("v", 1<<20)
	if Right(a) || Id(a) != modelId(a) || !Same(a, a) {
		t.Error("an alert with many fields")
	}
	if b, ok := Cut(api.Policy{}, a, a.Label); !ok || !Same(a, b) {
		t.Error("Cut of an alert with many fields")
	}
	if _, ok := Merge(a, a); ok {
		t.Error("Merge of an alert with many fields")
	}
	var p api.Policy
	for i := range 5000 {
		p.Raises = append(p.Raises, api.Named{Name: fmt.Sprint("r", i), Label: api.Label{Level: 7}})
	}
	p.Raises = append(p.Raises, api.Named{Name: "sev", Label: api.Label{Level: 6}})
	var l []Alert
	for i := range 2000 {
		b := whole()
		b.Fields[0].Value = fmt.Sprint(i % 1500)
		b.Label.Cats = uint32(i % 50)
		l = append(l, b, Alert{})
	}
	checksApart(t, p, l)
	if Right(Alert{Source: strings.Repeat("s", 1<<20), Fields: fields("a", "")}) {
		t.Error("an alert with a long source")
	}
}
