package label

import (
	"fmt"
	"math"
	"slices"
	"strings"
	"testing"

	"lychgate/api"
)

const everyTeam = math.MaxUint32

func top() api.Label { return api.Label{Level: 7, Cats: everyTeam} }

// invalid returns labels whose level is out of range, next to it and far off.
func invalid() []api.Label {
	var l []api.Label
	for _, level := range []int{-1, 8, 9, -8, 256, 1 << 32, math.MinInt, math.MaxInt} {
		l = append(l, api.Label{Level: level}, api.Label{Level: level, Cats: 1<<31 | 1}, api.Label{Level: level, Cats: everyTeam})
	}
	return l
}

// sample returns valid labels of every level: no teams, single teams at both
// ends of the set, mixtures, and all teams.
func sample() []api.Label {
	var l []api.Label
	for level := range 8 {
		for _, cats := range []uint32{0, 1, 1 << 1, 1 << 31, 1<<31 | 1, 1<<1 | 1<<5, 1<<16 | 1<<5, everyTeam &^ 1, everyTeam} {
			l = append(l, api.Label{Level: level, Cats: cats})
		}
	}
	return l
}

// plainFlows is the chapter's definition, team by team.
func plainFlows(a, b api.Label) bool {
	for _, c := range []api.Label{a, b} {
		if c.Level < 0 || c.Level > 7 {
			return false
		}
	}
	for k := 0; k < 32; k++ {
		if a.Cats>>k&1 == 1 && b.Cats>>k&1 == 0 {
			return false
		}
	}
	return a.Level <= b.Level
}

// plainText is the chapter's text of a label, written independently.
func plainText(level int, teams ...int) string {
	var words []string
	for _, k := range teams {
		words = append(words, fmt.Sprint(k))
	}
	if len(words) == 0 {
		return fmt.Sprint(level)
	}
	return fmt.Sprint(level) + "+" + strings.Join(words, ",")
}

func TestRight(t *testing.T) {
	for _, a := range sample() {
		if !Right(a) {
			t.Errorf("Right(%v) is false", a)
		}
	}
	for _, a := range invalid() {
		if Right(a) {
			t.Errorf("Right(%v) is true", a)
		}
	}
}

func TestFlowsByItsDefinition(t *testing.T) {
	all := append(sample(), invalid()...)
	for _, a := range all {
		for _, b := range all {
			if Flows(a, b) != plainFlows(a, b) {
				t.Errorf("Flows(%v, %v) is %v", a, b, Flows(a, b))
			}
		}
	}
}

func TestFlowsCases(t *testing.T) {
	cases := []struct {
		a, b api.Label
		want bool
	}{
		{api.Label{}, api.Label{}, true},
		{api.Label{}, top(), true},
		{top(), api.Label{}, false},
		{api.Label{Level: 3}, api.Label{Level: 4}, true},
		{api.Label{Level: 4}, api.Label{Level: 3}, false},
		{api.Label{Level: 3, Cats: 1}, api.Label{Level: 7}, false},
		{api.Label{Level: 3, Cats: 1 << 31}, api.Label{Level: 3, Cats: 1<<31 | 1}, true},
		{api.Label{Level: 3, Cats: 1<<31 | 1}, api.Label{Level: 3, Cats: 1 << 31}, false},
		{api.Label{Level: -1}, top(), false},
		{api.Label{}, api.Label{Level: 8, Cats: everyTeam}, false},
		{api.Label{Level: 8}, api.Label{Level: 8}, false},
		{api.Label{Level: -1}, api.Label{Level: -1}, false},
	}
	for _, c := range cases {
		if got := Flows(c.a, c.b); got != c.want {
			t.Errorf("Flows(%v, %v) is %v", c.a, c.b, got)
		}
	}
}

func TestFlowsIsPartialOrder(t *testing.T) {
	l := sample()
	for _, a := range l {
		if !Flows(a, a) {
			t.Errorf("%v does not flow to itself", a)
		}
		for _, b := range l {
			if Flows(a, b) && Flows(b, a) && a != b {
				t.Errorf("%v and %v flow to each other", a, b)
			}
			for _, c := range l {
				if Flows(a, b) && Flows(b, c) && !Flows(a, c) {
					t.Errorf("%v flows to %v and that to %v, but not the first to the last", a, b, c)
				}
			}
		}
	}
}

func TestJoinIsLeastAbove(t *testing.T) {
	l := sample()
	for _, a := range l {
		for _, b := range l {
			j := Join(a, b)
			if !Flows(a, j) || !Flows(b, j) {
				t.Errorf("Join(%v, %v) is %v, to which not both flow", a, b, j)
			}
			for _, c := range l {
				if Flows(a, c) && Flows(b, c) && !Flows(j, c) {
					t.Errorf("Join(%v, %v) is %v, which does not flow to %v", a, b, j, c)
				}
			}
		}
	}
}

func TestMeetIsGreatestBelow(t *testing.T) {
	l := sample()
	for _, a := range l {
		for _, b := range l {
			m := Meet(a, b)
			if !Flows(m, a) || !Flows(m, b) {
				t.Errorf("Meet(%v, %v) is %v, which does not flow to both", a, b, m)
			}
			for _, c := range l {
				if Flows(c, a) && Flows(c, b) && !Flows(c, m) {
					t.Errorf("Meet(%v, %v) is %v, to which %v does not flow", a, b, m, c)
				}
			}
		}
	}
}

func TestJoinAndMeetCases(t *testing.T) {
	cases := []struct{ a, b, join, meet api.Label }{
		{api.Label{Level: 1, Cats: 8}, api.Label{Level: 2, Cats: 1}, api.Label{Level: 2, Cats: 9}, api.Label{Level: 1}},
		{api.Label{}, api.Label{}, api.Label{}, api.Label{}},
		{api.Label{}, top(), top(), api.Label{}},
		{api.Label{Level: 7}, api.Label{Cats: everyTeam}, top(), api.Label{}},
		{api.Label{Level: 5, Cats: 6}, api.Label{Level: 3, Cats: 1<<31 | 2}, api.Label{Level: 5, Cats: 1<<31 | 6}, api.Label{Level: 3, Cats: 2}},
	}
	for _, c := range cases {
		for _, pair := range [][2]api.Label{{c.a, c.b}, {c.b, c.a}} {
			if got := Join(pair[0], pair[1]); got != c.join {
				t.Errorf("Join(%v, %v) is %v", pair[0], pair[1], got)
			}
			if got := Meet(pair[0], pair[1]); got != c.meet {
				t.Errorf("Meet(%v, %v) is %v", pair[0], pair[1], got)
			}
		}
	}
}

func TestJoinAndMeetOfInvalid(t *testing.T) {
	for _, a := range invalid() {
		for _, b := range append(sample(), invalid()...) {
			if Join(a, b) != top() || Join(b, a) != top() {
				t.Errorf("Join of %v and %v is not the highest label", a, b)
			}
			if Meet(a, b) != (api.Label{}) || Meet(b, a) != (api.Label{}) {
				t.Errorf("Meet of %v and %v is not the lowest label", a, b)
			}
		}
	}
}

func TestAll(t *testing.T) {
	x, y, z := api.Label{Level: 1, Cats: 8}, api.Label{Level: 2, Cats: 1}, api.Label{Level: 0, Cats: 1 << 31}
	bad := api.Label{Level: -1}
	cases := []struct {
		l    []api.Label
		want api.Label
	}{
		{nil, api.Label{}},
		{[]api.Label{}, api.Label{}},
		{[]api.Label{x}, x},
		{[]api.Label{x, y}, api.Label{Level: 2, Cats: 9}},
		{[]api.Label{y, x, z}, api.Label{Level: 2, Cats: 1<<31 | 9}},
		{[]api.Label{top(), x}, top()},
		{[]api.Label{bad}, top()},
		{[]api.Label{{Level: 8}}, top()},
		{[]api.Label{bad, x}, top()},
		{[]api.Label{x, bad, y}, top()},
	}
	for _, c := range cases {
		before := slices.Clone(c.l)
		if got := All(c.l); got != c.want {
			t.Errorf("All(%v) is %v", c.l, got)
		}
		if !slices.Equal(before, c.l) {
			t.Errorf("All changed %v to %v", before, c.l)
		}
	}
}

func TestTextCases(t *testing.T) {
	every := "7+0,1,2,3,4,5,6,7,8,9,10,11,12,13,14,15,16,17,18,19,20,21,22,23,24,25,26,27,28,29,30,31"
	cases := map[string]api.Label{
		"0":          {},
		"7":          {Level: 7},
		"0+0":        {Cats: 1},
		"7+31":       {Level: 7, Cats: 1 << 31},
		"3+1,5":      {Level: 3, Cats: 1<<1 | 1<<5},
		"2+0,3":      {Level: 2, Cats: 9},
		"4+2,10":     {Level: 4, Cats: 1<<2 | 1<<10},
		"1+9,10,31":  {Level: 1, Cats: 1<<9 | 1<<10 | 1<<31},
		"6+19,20,29": {Level: 6, Cats: 1<<19 | 1<<20 | 1<<29},
		every:        top(),
	}
	for text, a := range cases {
		if got, e := Text(a); got != text || e != api.OK {
			t.Errorf("Text(%v) is %q, %v", a, got, e)
		}
		if got, e := Read(text); got != a || e != api.OK {
			t.Errorf("Read(%q) is %v, %v", text, got, e)
		}
	}
}

func TestTextOfEverySmallSet(t *testing.T) {
	for level := range 8 {
		for j := range 32 {
			for k := j; k < 32; k++ {
				want := plainText(level, j, k)
				if j == k {
					want = plainText(level, j)
				}
				a := api.Label{Level: level, Cats: 1<<j | 1<<k}
				if got, e := Text(a); got != want || e != api.OK {
					t.Errorf("Text(%v) is %q, %v", a, got, e)
				}
				if got, e := Read(want); got != a || e != api.OK {
					t.Errorf("Read(%q) is %v, %v", want, got, e)
				}
			}
		}
	}
}

func TestTextOfInvalid(t *testing.T) {
	for _, a := range invalid() {
		if got, e := Text(a); got != "" || e != api.ErrArg {
			t.Errorf("Text(%v) is %q, %v", a, got, e)
		}
	}
}

func TestReadOfNoText(t *testing.T) {
	texts := []string{
		"", " ", "+", "+1", ",", "8", "9", "8+1", "-1", "a", "/", ":", "33", "03", "3 ", " 3", "3,1", "3-1", "3\n", "3\x00",
		"3+", "3++1", "3+,", "3+1,", "3+,1", "3+1,,5", "3+1;5", "3+1 ,5", "3+1, 5", "3 +1", "3+ 1", "3+1+5", "3+1.5",
		"3+5,1", "3+1,1", "3+1,5,5", "3+1,5,2", "3+31,0", "3+10,9",
		"3+32", "3+99", "3+310", "3+-1", "3+-0", "3++5", "3+1,+5", "3+01", "3+00", "3+1,05", "3+0x1", "3+1_0", "3+1e1",
		"3+4294967296", "3+18446744073709551616", "3+99999999999999999999999", "3+\u0661", "\uff13", "\xff", "3\xff", "3+\xff",
		"3+" + strings.Repeat("0", 1000) + "1", "3+" + strings.Repeat("1,", 1000) + "1", "3+" + strings.Repeat(",", 1000),
	}
	for _, s := range texts {
		if got, e := Read(s); got != (api.Label{}) || e != api.ErrForm {
			t.Errorf("Read(%q) is %v, %v", s, got, e)
		}
	}
}

// TestReadOfEveryShortText asks for every text of at most five bytes of an
// alphabet, and expects just those that are a label's to be read.
func TestReadOfEveryShortText(t *testing.T) {
	known := map[string]api.Label{}
	for level := range 8 {
		known[plainText(level)] = api.Label{Level: level}
		for j := range 32 {
			known[plainText(level, j)] = api.Label{Level: level, Cats: 1 << j}
			for k := j + 1; k < 32; k++ {
				known[plainText(level, j, k)] = api.Label{Level: level, Cats: 1<<j | 1<<k}
			}
		}
	}
	texts := []string{""}
	for range 6 {
		var longer []string
		for _, s := range texts {
			want, ok := known[s]
			wantErr := api.OK
			if !ok {
				wantErr = api.ErrForm
			}
			if got, e := Read(s); got != want || e != wantErr {
				t.Errorf("Read(%q) is %v, %v", s, got, e)
			}
			for _, b := range []byte("012378+,-_ ") {
				longer = append(longer, s+string(b))
			}
		}
		texts = longer
	}
}

func TestReadOfTextIsTheLabel(t *testing.T) {
	for _, a := range sample() {
		text, e := Text(a)
		if e != api.OK {
			t.Errorf("Text(%v): %v", a, e)
		}
		if got, e := Read(text); got != a || e != api.OK {
			t.Errorf("Read(%q) is %v, %v", text, got, e)
		}
	}
}

func TestTeams(t *testing.T) {
	var every []int
	for k := range 32 {
		every = append(every, k)
	}
	cases := []struct {
		a    api.Label
		want []int
	}{
		{api.Label{}, nil},
		{api.Label{Level: 7}, nil},
		{api.Label{Cats: 1}, []int{0}},
		{api.Label{Cats: 1 << 31}, []int{31}},
		{api.Label{Level: 3, Cats: 1<<5 | 1<<1}, []int{1, 5}},
		{top(), every},
		{api.Label{Level: 8, Cats: 1<<31 | 1}, []int{0, 31}},
		{api.Label{Level: math.MinInt, Cats: everyTeam}, every},
	}
	for _, c := range cases {
		if got := Teams(c.a); !slices.Equal(got, c.want) {
			t.Errorf("Teams(%v) is %v", c.a, got)
		}
	}
}

func TestAbove(t *testing.T) {
	a := api.Label{Level: 3, Cats: 2}
	list := []api.Label{{}, a, {Level: 8, Cats: everyTeam}, {Level: 7}, top(), {Level: 2, Cats: 2}, {Level: -1, Cats: 2}, a, {Level: 4, Cats: 3}}
	cases := []struct {
		a    api.Label
		l    []api.Label
		want []int
	}{
		{a, nil, nil},
		{a, []api.Label{}, nil},
		{a, list, []int{1, 4, 7, 8}},
		{api.Label{}, list, []int{0, 1, 3, 4, 5, 7, 8}},
		{top(), list, []int{4}},
		{api.Label{Level: 8}, list, nil},
		{api.Label{Level: -1}, list, nil},
	}
	for _, c := range cases {
		before := slices.Clone(c.l)
		if got := Above(c.a, c.l); !slices.Equal(got, c.want) {
			t.Errorf("Above(%v, %v) is %v", c.a, c.l, got)
		}
		if !slices.Equal(before, c.l) {
			t.Errorf("Above changed %v to %v", before, c.l)
		}
	}
}

// TestResultsAreNew changes what was returned, and expects the next call not
// to show it.
func TestResultsAreNew(t *testing.T) {
	a := api.Label{Level: 3, Cats: 1<<1 | 1<<5}
	list := []api.Label{{}, a, top()}
	teams, above := Teams(a), Above(a, list)
	teams[0], above[0] = 99, 99
	if got := Teams(a); !slices.Equal(got, []int{1, 5}) {
		t.Errorf("Teams is %v", got)
	}
	if got := Above(a, list); !slices.Equal(got, []int{1, 2}) {
		t.Errorf("Above is %v", got)
	}
}
