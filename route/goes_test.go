package route

import (
	"fmt"
	"math"
	"slices"
	"strings"
	"testing"

	"lychgate/alert"
	"lychgate/api"
)

// TestGoes (P11.1): a receiver with no route, with one and with several, beside
// routes of others.
func TestGoes(t *testing.T) {
	goes(t, "no routes", three(), "pager", whole(), 6)
	goes(t, "one", three(to("pager", "team")), "pager", whole(), 6, 0)
	goes(t, "one of another", three(to("mail", "team")), "pager", whole(), 6)
	goes(t, "one, behind another's", three(to("mail"), to("pager")), "pager", whole(), 6, 1)
	goes(t, "one, ahead of another's", three(to("pager"), to("mail")), "pager", whole(), 6, 0)
	goes(t, "several", three(allRoutes()...), "pager", whole(), 6, 0, 3, 5)
	goes(t, "several", three(allRoutes()...), "mail", whole(), 6, 1, 4)
	goes(t, "not shown", three(allRoutes()...), "low", whole(), 6)
	goes(t, "12", three(slices.Repeat([]api.Route{to("pager")}, 12)...), "pager", whole(), 6, 0, 1, 2, 3, 4, 5, 6, 7, 8, 9, 10, 11)
	goes(t, "the last of 12", three(append(slices.Repeat([]api.Route{to("mail")}, 11), to("pager"))...), "pager", whole(), 6, 11)
}

// TestGoesOfReceivers (P11.1): names that are not a receiver's.
func TestGoesOfReceivers(t *testing.T) {
	p := three(allRoutes()...)
	for _, name := range []string{"", "pag", "pagers", "Pager", "pager ", " pager", "pager\x00", "prom", "ann", "host", "team", "-", "zz", strings.Repeat("p", 1<<16)} {
		goes(t, "no receiver", p, name, whole(), 6)
	}
	goes(t, "no policy", api.Policy{}, "", whole(), 6)
	goes(t, "no policy", api.Policy{}, "pager", whole(), 6)
	p.Routes[0].Receiver = "zz"
	goes(t, "a route to no receiver", p, "zz", whole(), 6)
	goes(t, "a route to no receiver", p, "pager", whole(), 6)
}

// spoilers returns, by its name, what makes a policy with allRoutes one that is
// not valid.
func spoilers() map[string]func(p *api.Policy) {
	high := api.Label{Level: 8}
	return map[string]func(p *api.Policy){
		"13 sources":             func(p *api.Policy) { p.Sources = make([]api.Named, 13) },
		"13 routes":              func(p *api.Policy) { p.Routes = slices.Repeat(p.Routes[:1], 13) },
		"13 inhibits":            func(p *api.Policy) { p.Inhibits = slices.Repeat(p.Inhibits, 13) },
		"source named A":         func(p *api.Policy) { p.Sources[0].Name = "A" },
		"source labelled 8":      func(p *api.Policy) { p.Sources[0].Label = high },
		"person without a name":  func(p *api.Policy) { p.People[0].Name = "" },
		"person labelled 8":      func(p *api.Policy) { p.People[0].Label = high },
		"person twice":           func(p *api.Policy) { p.People = append(p.People, p.People[0]) },
		"pager twice":            func(p *api.Policy) { p.Receivers = append(p.Receivers, p.Receivers[0]) },
		"pager labelled 8":       func(p *api.Policy) { p.Receivers[0].Label = high },
		"low labelled -1":        func(p *api.Policy) { p.Receivers[2].Label.Level = -1 },
		"another named 1":        func(p *api.Policy) { p.Receivers = append(p.Receivers, api.Named{Name: "1"}) },
		"raise twice":            func(p *api.Policy) { p.Raises = append(p.Raises, p.Raises[0]) },
		"raise labelled 8":       func(p *api.Policy) { p.Raises[2].Label = high },
		"no pager":               func(p *api.Policy) { p.Receivers = p.Receivers[1:] },
		"no low":                 func(p *api.Policy) { p.Receivers = p.Receivers[:2] },
		"By with a name twice":   func(p *api.Policy) { p.Routes[0].By = []string{"team", "team"} },
		"By with no name":        func(p *api.Policy) { p.Routes[2].By = []string{""} },
		"By with 9 names":        func(p *api.Policy) { p.Routes[3].By = []string{"a", "b", "c", "d", "e", "f", "g", "h", "i"} },
		"wait -1":                func(p *api.Policy) { p.Routes[5].Wait = -1 },
		"wait 1001":              func(p *api.Policy) { p.Routes[2].Wait = 1001 },
		"interval 0":             func(p *api.Policy) { p.Routes[0].Interval = 0 },
		"interval 1001":          func(p *api.Policy) { p.Routes[1].Interval, p.Routes[1].Repeat = 1001, 1001 },
		"repeat 0":               func(p *api.Policy) { p.Routes[0].Repeat = 0 },
		"repeat 100001":          func(p *api.Policy) { p.Routes[2].Repeat = 100001 },
		"13 matchers":            func(p *api.Policy) { p.Routes[0].When = slices.Repeat(is("team", "t"), 13) },
		"a matcher not valid":    func(p *api.Policy) { p.Routes[2].When = []api.Matcher{{Name: "a", Op: 4}} },
		"a pattern not valid":    func(p *api.Policy) { p.Routes[4].When = []api.Matcher{{Name: "a", Op: 3, Value: "("}} },
		"a matcher with byte 9":  func(p *api.Policy) { p.Routes[2].When = is("a", "\t") },
		"inhibit labelled 8":     func(p *api.Policy) { p.Inhibits[0].Label = high },
		"inhibit By of no name":  func(p *api.Policy) { p.Inhibits[0].By = []string{"A"} },
		"inhibit From not valid": func(p *api.Policy) { p.Inhibits[0].From = is("", "") },
		"inhibit When not valid": func(p *api.Policy) { p.Inhibits[0].When = is("a", "\n") },
	}
}

// TestOfWrongPolicies (P11.1): one fault is enough, wherever it is, for no
// alert to go anywhere.
func TestOfWrongPolicies(t *testing.T) {
	for what, spoil := range spoilers() {
		p := three(allRoutes()...)
		spoil(&p)
		for _, receiver := range []string{"pager", "mail", "low", ""} {
			goes(t, what, p, receiver, whole(), 6)
		}
		if l := Groups(p, "pager", slices.Repeat([]alert.Alert{whole()}, 3), 6); len(l) != 0 {
			t.Errorf("%s: Groups are %v", what, l)
		}
	}
}

// wrongAlerts returns, by its name, what makes the alert whole one that is not
// valid.
func wrongAlerts() map[string]func(a *alert.Alert) {
	return map[string]func(a *alert.Alert){
		"nothing":             func(a *alert.Alert) { *a = alert.Alert{} },
		"no source":           func(a *alert.Alert) { a.Source = "" },
		"source A":            func(a *alert.Alert) { a.Source = "A" },
		"a long source":       func(a *alert.Alert) { a.Source = "abcdefghijklm" },
		"no fields":           func(a *alert.Alert) { a.Fields = nil },
		"order of fields":     func(a *alert.Alert) { slices.Reverse(a.Fields) },
		"a field twice":       func(a *alert.Alert) { a.Fields = fields("team", "t", "team", "t") },
		"a field of no name":  func(a *alert.Alert) { a.Fields = fields("", "x", "team", "t") },
		"a long value":        func(a *alert.Alert) { a.Fields[1].Value = strings.Repeat("v", 201) },
		"9 fields":            func(a *alert.Alert) { a.Fields = fields(strings.Split("a  b  c  d  e  f  g  h  i ", " ")...) },
		"level -1":            func(a *alert.Alert) { a.Label.Level = -1 },
		"level 8":             func(a *alert.Alert) { a.Label.Level = 8 },
		"from -1":             func(a *alert.Alert) { a.From = -1 },
		"from -1, no end":     func(a *alert.Alert) { a.From, a.To = -1, 0 },
		"to behind the end":   func(a *alert.Alert) { a.To = end + 1 },
		"to -1":               func(a *alert.Alert) { a.To = -1 },
		"to at from":          func(a *alert.Alert) { a.From, a.To = 6, 6 },
		"to ahead of from":    func(a *alert.Alert) { a.From, a.To = 6, 5 },
		"from behind the end": func(a *alert.Alert) { a.From, a.To = end+1, 0 },
	}
}

// TestOfWrongAlerts (P11.1): an alert that is not valid goes nowhere, whatever
// the time, and does not disturb the others.
func TestOfWrongAlerts(t *testing.T) {
	p := three(allRoutes()...)
	for what, spoil := range wrongAlerts() {
		a := whole()
		spoil(&a)
		if alert.Right(a) {
			t.Errorf("%s is valid", what)
		}
		for _, now := range []int{math.MinInt, -1, 0, 5, 6, 8, end, end + 1, end + 2, math.MaxInt} {
			goes(t, what, p, "pager", a, now)
		}
		alone := []alert.Alert{whole(), of("team", "u")}
		for at := range 3 {
			l := slices.Insert(slices.Clone(alone), at, a)
			if got, want := groups(t, what, p, "pager", l, 6), Groups(p, "pager", alone, 6); shape(got) != shape(want) {
				t.Errorf("%s at %d: Groups are%s\nnot%s", what, at, shape(got), shape(want))
			}
		}
	}
}

// TestOfTimes (P11.1): just before From, at From, just before To, at To, and
// alerts that do not end.
func TestOfTimes(t *testing.T) {
	p := three(to("pager", "team"))
	for _, c := range [][2]int{{5, 9}, {5, 6}, {5, 0}, {0, 0}, {0, 1}, {0, end}, {end - 1, end}, {end, 0}, {1 << 32, 1<<32 + 2}} {
		a := whole()
		a.From, a.To = c[0], c[1]
		for _, now := range []int{math.MinInt, -end, -1, 0, 1, c[0] - 1, c[0], c[0] + 1, c[1] - 1, c[1], c[1] + 1, end - 1, end, end + 1, math.MaxInt} {
			var want []int
			if now >= c[0] && (c[1] == 0 || now < c[1]) {
				want = []int{0}
			}
			goes(t, fmt.Sprint(c), p, "pager", a, now, want...)
		}
	}
}

// TestGoesOfCut (P11.1): an alert that Cut does not show to the receiver goes
// nowhere, and one of which it shows only some fields does.
func TestGoesOfCut(t *testing.T) {
	p := three(allRoutes()...)
	for _, x := range []api.Label{{Level: 5, Cats: 2}, {Level: 7}, {Level: 0, Cats: 1}, {Level: 2, Cats: 3}, {Level: 2, Cats: 1 << 31}} {
		a := whole()
		a.Label = x
		goes(t, fmt.Sprint("labelled ", x), p, "pager", a, 6)
	}
	for _, x := range []api.Label{{}, {Level: 4}, {Cats: 2}, {Level: 4, Cats: 2}} {
		a := whole()
		a.Label = x
		goes(t, fmt.Sprint("labelled ", x), p, "pager", a, 6, 0, 3, 5)
	}
	goes(t, "every field raised", p, "mail", of("host", "h"), 6)
	goes(t, "every field raised", p, "mail", of("host", "h", "note", "n", "secret", "s"), 6)
	goes(t, "every field raised", p, "pager", of("secret", "s"), 6)
	goes(t, "a field seen", p, "mail", of("host", "h", "team", ""), 6, 1, 4)
	goes(t, "a field seen", p, "pager", of("host", "h", "secret", "s"), 6, 0, 3, 5)
}

// TestGoesOfWhen (P11.1): without matchers, with one and with several, of which
// all have to match.
func TestGoesOfWhen(t *testing.T) {
	yes := []api.Matcher{
		{Name: "team", Value: "t"}, {Name: "sev", Op: api.MatchNot, Value: "low"}, {Name: "zone"},
		{Name: "host", Op: api.MatchLike, Value: "[a-h]"}, {Name: "host", Op: api.MatchNotLike, Value: "x.*"}, {Name: "zone", Op: api.MatchLike, Value: "z?"},
	}
	no := []api.Matcher{
		{Name: "team", Value: "T"}, {Name: "sev", Op: api.MatchNot, Value: "high"}, {Name: "zone", Op: api.MatchNot},
		{Name: "host", Op: api.MatchLike, Value: "x.*"}, {Name: "host", Op: api.MatchNotLike, Value: "h"}, {Name: "zone", Value: "z"},
	}
	for _, m := range yes {
		goes(t, fmt.Sprint(m), three(when(to("pager"), m)), "pager", whole(), 6, 0)
	}
	goes(t, "all", three(when(to("pager"), yes...)), "pager", whole(), 6, 0)
	goes(t, "12", three(when(to("pager"), slices.Repeat(yes, 2)...)), "pager", whole(), 6, 0)
	for _, m := range no {
		goes(t, fmt.Sprint(m), three(when(to("pager"), m)), "pager", whole(), 6)
		goes(t, fmt.Sprint(m, ", other routes"), three(to("pager"), when(to("pager"), m), when(to("pager"), yes...)), "pager", whole(), 6, 0, 2)
		for at := range len(yes) + 1 {
			l := slices.Insert(slices.Clone(yes), at, m)
			goes(t, fmt.Sprint(m, " at ", at), three(when(to("pager"), l...)), "pager", whole(), 6)
		}
	}
}

// TestGoesOfWhenCut (P11.1, P11.2): to a matcher, a field that was cut away is
// one that is not there.
func TestGoesOfWhenCut(t *testing.T) {
	l := []api.Matcher{
		{Name: "host", Value: "h"}, {Name: "host"}, {Name: "host", Op: api.MatchNot, Value: "h"}, {Name: "host", Op: api.MatchNot},
		{Name: "host", Op: api.MatchLike, Value: "h"}, {Name: "host", Op: api.MatchLike, Value: "h?"}, {Name: "host", Op: api.MatchNotLike, Value: "h"}, {Name: "host", Op: api.MatchNotLike, Value: "h?"},
	}
	for receiver, want := range map[string][]int{"pager": {0, 3, 4, 5}, "mail": {1, 2, 5, 6}, "low": nil} {
		var routes []api.Route
		for _, m := range l {
			routes = append(routes, when(to(receiver, "team"), m))
		}
		goes(t, "host", three(routes...), receiver, whole(), 6, want...)
	}
	both := three(when(to("mail"), is("team", "t", "host", "h")...), when(to("mail"), is("host", "", "team", "t")...), when(to("mail"), is("team", "t")...))
	goes(t, "beside one that is seen", both, "mail", whole(), 6, 1, 2)
}
