package route

import (
	"fmt"
	"slices"
	"strings"
	"testing"

	"lychgate/alert"
	"lychgate/api"
)

// TestGroups (P11.1): the chapter's example, and alerts of the same group and
// of different ones.
func TestGroups(t *testing.T) {
	l := []alert.Alert{of("host", "1", "team", "a"), of("host", "2", "team", "a"), of("host", "1", "team", "b"), of("host", "3", "team", "a"), of("zone", "z")}
	tells(t, "by team", three(to("pager", "team")), "pager", l[:2], l, told{0, fields("team", "a"), []int{0, 1}})
	tells(t, "by team", three(to("pager", "team")), "pager", l, l,
		told{0, fields("team", "a"), []int{0, 1, 3}}, told{0, fields("team", "b"), []int{2}}, told{0, nil, []int{4}})
	tells(t, "by host", three(to("pager", "host")), "pager", l, l,
		told{0, fields("host", "1"), []int{0, 2}}, told{0, fields("host", "2"), []int{1}}, told{0, fields("host", "3"), []int{3}}, told{0, nil, []int{4}})
	tells(t, "no alerts", three(to("pager", "team")), "pager", nil, nil)
	tells(t, "no alerts", three(to("pager", "team")), "pager", []alert.Alert{}, nil)
	tells(t, "no routes", three(), "pager", l, l)
	tells(t, "another's routes", three(to("mail"), to("low")), "pager", l, l)
	tells(t, "no such receiver", three(allRoutes()...), "zz", l, l)
	tells(t, "no receiver", three(allRoutes()...), "", l, l)
}

// TestGroupsOfBy (P11.1): By without names, with one and with several, and with
// names that the alert does not have. The fields are in the alert's order.
func TestGroupsOfBy(t *testing.T) {
	l := []alert.Alert{whole()}
	for _, c := range []struct {
		by   []string
		want []api.Field
	}{
		{nil, nil}, {[]string{}, nil}, {[]string{"team"}, fields("team", "t")}, {[]string{"host"}, fields("host", "h")},
		{[]string{"host", "team"}, fields("host", "h", "team", "t")}, {[]string{"team", "host"}, fields("host", "h", "team", "t")},
		{[]string{"team", "sev", "host"}, whole().Fields}, {[]string{"host", "sev", "team"}, whole().Fields},
		{[]string{"zone"}, nil}, {[]string{"zone", "team"}, fields("team", "t")}, {[]string{"a", "sev", "zone"}, fields("sev", "high")}, {[]string{"a", "b", "c", "d", "e", "f", "g", "h"}, nil},
		{[]string{"te", "teams", "hos", "_"}, nil},
	} {
		tells(t, fmt.Sprint(c.by), three(to("pager", c.by...)), "pager", l, l, told{0, c.want, []int{0}})
	}
	eight := of("a", "1", "b", "2", "c", "3", "d", "4", "e", "5", "f", "6", "g", "7", "h", "8")
	tells(t, "8 names", three(to("pager", "h", "g", "f", "e", "d", "c", "b", "a")), "pager", []alert.Alert{eight}, []alert.Alert{eight}, told{0, eight.Fields, []int{0}})
}

// TestGroupsOfEmpty (P11.1): a field without a value is a field, so that the
// group of it is another one than that of no field.
func TestGroupsOfEmpty(t *testing.T) {
	l := []alert.Alert{of("host", "h", "team", ""), of("host", "h"), of("host", "i", "team", ""), of("host", "i")}
	tells(t, "no value", three(to("pager", "team")), "pager", l, l, told{0, fields("team", ""), []int{0, 2}}, told{0, nil, []int{1, 3}})
	l = []alert.Alert{of("a", "", "x", ""), of("b", "", "x", ""), of("a", "", "b", "")}
	tells(t, "other names", three(to("pager", "a", "b")), "pager", l, l, told{0, fields("a", ""), []int{0}}, told{0, fields("b", ""), []int{1}}, told{0, fields("a", "", "b", ""), []int{2}})
}

// TestGroupsOfCut (P11.1): only fields that the receiver sees make a group, and
// ids are those of what it sees.
func TestGroupsOfCut(t *testing.T) {
	l := []alert.Alert{of("host", "1", "sev", "low", "team", "a"), of("host", "2", "sev", "low", "team", "a"), of("host", "1", "sev", "high", "team", "a"), of("host", "1"), of("note", "n", "secret", "s")}
	mail := []alert.Alert{of("sev", "low", "team", "a"), of("sev", "low", "team", "a"), of("sev", "high", "team", "a")}
	p := three(to("pager", "host"), to("mail", "host"), to("mail", "team", "host"), to("mail", "sev"), to("low"))
	tells(t, "cut away", p, "mail", l, mail,
		told{1, nil, []int{0, 2}}, told{2, fields("team", "a"), []int{0, 2}}, told{3, fields("sev", "low"), []int{0}}, told{3, fields("sev", "high"), []int{2}})
	pager := append(slices.Clone(l[:4]), of("note", "n"))
	tells(t, "secret alone cut away", p, "pager", l, pager,
		told{0, fields("host", "1"), []int{0, 2, 3}}, told{0, fields("host", "2"), []int{1}}, told{0, nil, []int{4}})
	tells(t, "nothing seen", p, "low", l, l)
	// One more team in its label takes the whole alert away.
	a := whole()
	a.Label.Cats = 6
	tells(t, "another label", p, "pager", []alert.Alert{a, whole()}, []alert.Alert{a, whole()}, told{0, fields("host", "h"), []int{1}})
}

// TestGroupsOfWhen (P11.1): what goes by one route is not in the groups of
// another.
func TestGroupsOfWhen(t *testing.T) {
	p := three(when(to("pager", "team"), is("sev", "high")...), when(to("pager", "team"), is("sev", "low")...), when(to("pager", "team"), is("sev", "none")...), when(to("pager", "team"), api.Matcher{Name: "sev", Op: api.MatchNot, Value: "low"}))
	l := []alert.Alert{of("host", "1", "sev", "low", "team", "a"), of("host", "2", "sev", "high", "team", "a"), of("host", "3", "sev", "high", "team", "b"), of("host", "4", "sev", "low", "team", "b"), of("team", "a")}
	tells(t, "by sev", p, "pager", l, l,
		told{0, fields("team", "a"), []int{1}}, told{0, fields("team", "b"), []int{2}},
		told{1, fields("team", "a"), []int{0}}, told{1, fields("team", "b"), []int{3}},
		told{3, fields("team", "a"), []int{1, 4}}, told{3, fields("team", "b"), []int{2}})
}

// TestGroupsOfSameBy (P11.1): the same By in two routes makes two groups, with
// keys of their own.
func TestGroupsOfSameBy(t *testing.T) {
	p := three(to("pager", "team"), to("mail", "team"), to("pager", "team"), to("pager"), to("pager"))
	l := []alert.Alert{of("host", "1", "team", "a"), of("host", "2", "team", "b"), of("host", "3", "team", "a")}
	tells(t, "the same By", p, "pager", l, l,
		told{0, fields("team", "a"), []int{0, 2}}, told{0, fields("team", "b"), []int{1}},
		told{2, fields("team", "a"), []int{0, 2}}, told{2, fields("team", "b"), []int{1}},
		told{3, nil, []int{0, 1, 2}}, told{4, nil, []int{0, 1, 2}})
	keys := map[uint64]bool{}
	for _, g := range Groups(p, "pager", l, 6) {
		keys[g.Key] = true
	}
	if len(keys) != 6 {
		t.Errorf("6 groups have %d keys", len(keys))
	}
}

// TestGroupsOfOrder (P11.1): groups are in the order of their first alerts, for
// all orders of the alerts, also when those of one group are apart; an alert
// that does not fire, or is not shown, is no first one.
func TestGroupsOfOrder(t *testing.T) {
	l := []alert.Alert{of("host", "1", "team", "c"), of("host", "2", "team", "a"), of("host", "3", "team", "b"), of("host", "4", "team", "a"), of("host", "5")}
	p := three(to("mail"), to("pager", "team"), to("pager", "sev"))
	permutes(l, func(l []alert.Alert) {
		var want []told
		at := map[string]int{}
		for i, a := range l {
			by := a.Fields[1:]
			k, there := at[fmt.Sprint(by)]
			if !there {
				k = len(want)
				at[fmt.Sprint(by)] = k
				want = append(want, told{1, by, nil})
			}
			want[k].alerts = append(want[k].alerts, i)
		}
		want = append(want, told{2, nil, []int{0, 1, 2, 3, 4}})
		tells(t, "an order", p, "pager", l, l, want...)
	})
	late, high, wrong := l[2], l[2], l[2]
	late.From = 7
	high.Label = api.Label{Level: 5}
	wrong.Source = ""
	for _, first := range []alert.Alert{late, high, wrong} {
		first.Fields = fields("host", "0", "team", "b")
		with := append([]alert.Alert{first}, l...)
		tells(t, "not first", three(to("pager", "team")), "pager", with, with,
			told{0, fields("team", "c"), []int{1}}, told{0, fields("team", "a"), []int{2, 4}}, told{0, fields("team", "b"), []int{3}}, told{0, nil, []int{5}})
	}
}

// permutes calls f with each order of l.
func permutes(l []alert.Alert, f func([]alert.Alert)) {
	var next func(done, left []alert.Alert)
	next = func(done, left []alert.Alert) {
		if len(left) == 0 {
			f(done)
		}
		for i, a := range left {
			next(append(slices.Clone(done), a), slices.Delete(slices.Clone(left), i, i+1))
		}
	}
	next(nil, l)
}

// TestGroupsOfIds (P11.1): ids are in ascending order and each once, in
// whatever order the alerts come, how often, and by whichever alerts.
func TestGroupsOfIds(t *testing.T) {
	var l []alert.Alert
	for i := range 40 {
		l = append(l, of("host", fmt.Sprint(i), "team", "t"))
	}
	p := three(to("pager", "team"))
	all := make([]int, 40)
	for i := range all {
		all[i] = i
	}
	want := told{0, fields("team", "t"), all}
	tells(t, "40", p, "pager", l, l, want)
	twice := append(slices.Clone(l), l...)
	tells(t, "twice", p, "pager", twice, l, want)
	slices.Reverse(twice)
	tells(t, "backwards", p, "pager", twice, l, want)

	// The same id, though the alerts differ in what an id is not made of.
	a, b, c := whole(), whole(), whole()
	b.Label, b.From, b.To = api.Label{}, 6, 0
	c.Fields = fields("host", "h", "secret", "s", "sev", "high", "team", "t")
	tells(t, "one id", p, "pager", []alert.Alert{a, b, c, a}, []alert.Alert{a}, told{0, fields("team", "t"), []int{0}})
	// The same fields of another source are another id.
	b.Source = "cron"
	tells(t, "another source", p, "pager", []alert.Alert{a, b, a}, []alert.Alert{a, b}, told{0, fields("team", "t"), []int{0, 1}})
	// The same id by fields that differ, as values may have bytes 0 and 61.
	x, y := of("a", "1\x00b=2"), of("a", "1", "b", "2")
	tells(t, "one id of other fields", three(to("pager")), "pager", []alert.Alert{x, y}, []alert.Alert{x}, told{0, nil, []int{0}})
}

// TestGroupsOfSameKey (P11.1): what determines a group are its fields. Groups
// of other fields are others, also when their keys are the same.
func TestGroupsOfSameKey(t *testing.T) {
	l := []alert.Alert{of("a", "1\x00b=2", "z", "1"), of("a", "1", "b", "2", "z", "2"), of("a", "1\x00b=2", "z", "3"), of("a", "1", "b", "2", "z", "4")}
	p := three(to("pager", "a", "b"))
	tells(t, "one key", p, "pager", l, l, told{0, fields("a", "1\x00b=2"), []int{0, 2}}, told{0, fields("a", "1", "b", "2"), []int{1, 3}})
	if g := Groups(p, "pager", l, 6); len(g) != 2 || g[0].Key != g[1].Key {
		t.Errorf("the keys are not the same: %s", shape(g))
	}
}

// TestGroupsOfSigns (P11.1): values of signs that a text of fields might take
// for its own, and of bytes that are not UTF-8, keep groups apart.
func TestGroupsOfSigns(t *testing.T) {
	values := []string{"", "\x00", "\x00\x00", "=", "==", ",", "\"", "\"\"", "\\", "\\\\", "\\\"", "\\x00", "\\xff", "\xff", "\xfe", "\xff\xfe", "\ufffd", "é", "\xe9", "\n", "\\n", "1", "01", "1:", "2:a", "a", "a ", " a", "A", "b=", "\x00b=", "a\x00b=", "\"b\"", "a\"\"b", strings.Repeat("v", 199), strings.Repeat("v", 200)}
	var l []alert.Alert
	var want []told
	for _, v := range values {
		want = append(want, told{0, fields("a", v), []int{len(l)}})
		l = append(l, of("a", v))
		for _, w := range values {
			want = append(want, told{0, fields("a", v, "b", w), []int{len(l)}})
			l = append(l, of("a", v, "b", w))
		}
	}
	tells(t, "signs", three(to("pager", "a", "b")), "pager", l, l, want...)
}

// TestMemory (R4): what is returned is new, is kept by nobody, and no two lists
// of it share any memory.
func TestMemory(t *testing.T) {
	p := three(to("pager", "team", "host"), to("pager", "team", "host"), to("pager", "host", "sev", "team"))
	l := []alert.Alert{whole(), of("host", "i", "team", "t"), whole()}
	routes, all := Goes(p, "pager", l[0], 6), Groups(p, "pager", l, 6)
	before, want := fmt.Sprintf("%#v %#v", p, l), shape(all)
	for i := range routes {
		routes[i] = -1
	}
	for i := range all {
		rest := shape(slices.Concat(all[:i], all[i+1:]))
		by, ids := slices.Clone(all[i].By), slices.Clone(all[i].Ids)
		for k := range by {
			all[i].By[k] = api.Field{Name: "x", Value: "y"}
		}
		for k := range ids {
			all[i].Ids[k] = 0
		}
		_, _ = append(all[i].By, fields("p", "q", "r", "s")...), append(all[i].Ids, 1, 2, 3, 4)
		if now := shape(slices.Concat(all[:i], all[i+1:])); now != rest {
			t.Errorf("with group %d, others were changed: %s\nfrom%s", i, now, rest)
		}
		all[i].By, all[i].Ids = by, ids
	}
	if fmt.Sprintf("%#v %#v", p, l) != before || shape(Groups(p, "pager", l, 6)) != want || !slices.Equal(Goes(p, "pager", l[0], 6), []int{0, 1, 2}) {
		t.Error("what was returned is what was given, or was kept")
	}
	for i := range l {
		for k := range l[i].Fields {
			l[i].Fields[k] = api.Field{}
		}
	}
	p.Routes[0], p.Routes[1].By[0] = api.Route{}, ""
	if shape(all) != want {
		t.Error("what was given is what was returned")
	}
}
