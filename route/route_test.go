package route

import (
	"crypto/sha256"
	"encoding/binary"
	"fmt"
	"math"
	"regexp"
	"slices"
	"sort"
	"strings"
	"testing"

	"lychgate/alert"
	"lychgate/api"
	"lychgate/policy"
)

// end is the greatest time.
const end = 1 << 40

// modelName is the form of a name.
var modelName = regexp.MustCompile(`\A[a-z_][a-z0-9_]{0,11}\z`)

// fields returns the fields of names and values that take turns.
func fields(s ...string) []api.Field {
	var l []api.Field
	for i := 0; i < len(s); i += 2 {
		l = append(l, api.Field{Name: s[i], Value: s[i+1]})
	}
	return l
}

// is returns the matchers of names and values that take turns.
func is(s ...string) []api.Matcher {
	var l []api.Matcher
	for _, f := range fields(s...) {
		l = append(l, api.Matcher{Name: f.Name, Value: f.Value})
	}
	return l
}

// to returns a route to the receiver by these names.
func to(receiver string, by ...string) api.Route {
	return api.Route{Receiver: receiver, By: by, Interval: 1, Repeat: 1}
}

// when returns r with these matchers.
func when(r api.Route, l ...api.Matcher) api.Route {
	r.When = l
	return r
}

// whole returns a valid alert that fires at 5 to 8.
func whole() alert.Alert {
	return of("host", "h", "sev", "high", "team", "t")
}

// of returns a valid alert with these fields that fires at 5 to 8.
func of(s ...string) alert.Alert {
	return alert.Alert{Source: "prom", Fields: fields(s...), Label: api.Label{Level: 2, Cats: 2}, From: 5, To: 9}
}

// three returns a policy with three receivers and these routes. The pager sees
// of the alert whole all fields but secret; the mail, which sees neither host
// nor note, still sees the alert; low does not see it.
func three(routes ...api.Route) api.Policy {
	return api.Policy{
		Sources: []api.Named{{Name: "prom", Label: api.Label{Level: 2}}},
		Receivers: []api.Named{
			{Name: "pager", Label: api.Label{Level: 4, Cats: 2}},
			{Name: "mail", Label: api.Label{Level: 2, Cats: 2}},
			{Name: "low", Label: api.Label{Level: 7, Cats: 1}},
		},
		People: []api.Named{{Name: "ann", Label: api.Label{Level: 7, Cats: math.MaxUint32}}},
		Raises: []api.Named{
			{Name: "host", Label: api.Label{Level: 4}},
			{Name: "note", Label: api.Label{Level: 3, Cats: 2}},
			{Name: "secret", Label: api.Label{Cats: 1}},
		},
		Routes:   routes,
		Inhibits: []api.Inhibit{{By: []string{"team"}, From: is("sev", "high"), When: is("sev", "low")}},
	}
}

// allRoutes returns routes of the pager, the mail and low in turns.
func allRoutes() []api.Route {
	return []api.Route{to("pager", "team"), to("mail", "team"), to("low", "team"), to("pager", "host"), to("mail", "host"), to("pager")}
}

// shape returns a text that is the same for groups that are equal in every
// field.
func shape(l []Group) string {
	var b strings.Builder
	for _, g := range l {
		fmt.Fprintf(&b, "\n\t%d %q %x %x", g.Route, g.By, g.Key, g.Ids)
	}
	return b.String()
}

// The model: the chapter once more, by other means. It takes the word of the
// layers below for whether a policy and an alert are valid.

func modelFlows(a, b api.Label) bool {
	return a.Level >= 0 && a.Level <= 7 && b.Level >= 0 && b.Level <= 7 && a.Level <= b.Level && a.Cats|b.Cats == b.Cats
}

// modelShown returns the fields that the receiver sees, none if it does not see
// the alert, or if that does not fire.
func modelShown(p api.Policy, receiver string, a alert.Alert, now int) []api.Field {
	if policy.Check(p) != api.OK || !alert.Right(a) || now < a.From || a.To > 0 && now >= a.To {
		return nil
	}
	there := slices.IndexFunc(p.Receivers, func(n api.Named) bool { return n.Name == receiver })
	if there < 0 || !modelFlows(a.Label, p.Receivers[there].Label) {
		return nil
	}
	var shown []api.Field
	for _, f := range a.Fields {
		raised := a.Label
		for _, r := range p.Raises {
			if r.Name == f.Name {
				raised.Level = max(raised.Level, r.Label.Level)
				raised.Cats |= r.Label.Cats
			}
		}
		if modelFlows(raised, p.Receivers[there].Label) {
			shown = append(shown, f)
		}
	}
	return shown
}

// modelFits takes patterns for ones of regexp, which those of these tests are.
func modelFits(shown []api.Field, m api.Matcher) bool {
	value := ""
	for _, f := range shown {
		if f.Name == m.Name {
			value = f.Value
		}
	}
	if m.Op < 2 {
		return (value == m.Value) == (m.Op == 0)
	}
	return regexp.MustCompile(`\A(?s:`+m.Value+`)\z`).MatchString(value) == (m.Op == 2)
}

func modelGoes(p api.Policy, receiver string, a alert.Alert, now int) []int {
	shown := modelShown(p, receiver, a, now)
	var routes []int
next:
	for i, r := range p.Routes {
		if len(shown) == 0 || r.Receiver != receiver {
			continue
		}
		for _, m := range r.When {
			if !modelFits(shown, m) {
				continue next
			}
		}
		routes = append(routes, i)
	}
	return routes
}

func modelShort(head string, l []api.Field) uint64 {
	for _, f := range l {
		head += f.Name + "=" + f.Value + "\x00"
	}
	d := sha256.Sum256([]byte(head))
	return binary.BigEndian.Uint64(d[:8])
}

func modelKey(receiver string, route int, by []api.Field) uint64 {
	return modelShort(receiver+"\x00"+string([]byte{byte((route%256 + 256) % 256)}), by)
}

// modelGroups searches each alert's group among all that there are already.
func modelGroups(p api.Policy, receiver string, l []alert.Alert, now int) []Group {
	var groups []Group
	for _, a := range l {
		shown := modelShown(p, receiver, a, now)
		id := modelShort(a.Source+"\x00", shown)
		for _, i := range modelGoes(p, receiver, a, now) {
			var by []api.Field
			for _, f := range shown {
				if slices.Contains(p.Routes[i].By, f.Name) {
					by = append(by, f)
				}
			}
			at := slices.IndexFunc(groups, func(g Group) bool { return g.Route == i && fmt.Sprintf("%q", g.By) == fmt.Sprintf("%q", by) })
			if at < 0 {
				at = len(groups)
				groups = append(groups, Group{Route: i, By: by, Key: modelKey(receiver, i, by)})
			}
			if !slices.Contains(groups[at].Ids, id) {
				groups[at].Ids = append(groups[at].Ids, id)
			}
		}
	}
	for _, g := range groups {
		sort.Slice(g.Ids, func(i, k int) bool { return g.Ids[i] < g.Ids[k] })
	}
	sort.SliceStable(groups, func(i, k int) bool { return groups[i].Route < groups[k].Route })
	return groups
}

// goes holds Goes of a against the model and against want.
func goes(t *testing.T, what string, p api.Policy, receiver string, a alert.Alert, now int, want ...int) {
	t.Helper()
	before := fmt.Sprintf("%#v %#v", p, a)
	got, model := Goes(p, receiver, a, now), modelGoes(p, receiver, a, now)
	if !slices.Equal(got, want) || !slices.Equal(model, want) {
		t.Errorf("%s: Goes to %q at %d is %v, of the model %v, not %v", what, receiver, now, got, model, want)
	}
	if fmt.Sprintf("%#v %#v", p, a) != before {
		t.Errorf("%s: Goes has changed its arguments", what)
	}
	// The groups of one alert are one for each route by which it goes.
	var routes []int
	for _, g := range groups(t, what, p, receiver, []alert.Alert{a}, now) {
		routes = append(routes, g.Route)
	}
	if !slices.Equal(routes, want) {
		t.Errorf("%s: the Groups of one alert to %q at %d are of the routes %v, not %v", what, receiver, now, routes, want)
	}
}

// groups holds Groups of l against the model, and returns them.
func groups(t *testing.T, what string, p api.Policy, receiver string, l []alert.Alert, now int) []Group {
	t.Helper()
	before := fmt.Sprintf("%#v %#v", p, l)
	got := Groups(p, receiver, l, now)
	if want := modelGroups(p, receiver, l, now); shape(got) != shape(want) {
		t.Errorf("%s: Groups to %q at %d are%s\nnot%s", what, receiver, now, shape(got), shape(want))
	}
	if fmt.Sprintf("%#v %#v", p, l) != before {
		t.Errorf("%s: Groups has changed its arguments", what)
	}
	return got
}

// told is a group in short: its route, its fields, and which alerts it has.
type told struct {
	route  int
	by     []api.Field
	alerts []int
}

// tells holds Groups of l against want, where the ids are those of what is
// shown.
func tells(t *testing.T, what string, p api.Policy, receiver string, l, shown []alert.Alert, want ...told) {
	t.Helper()
	var all []Group
	for _, w := range want {
		g := Group{Route: w.route, By: w.by, Key: modelKey(receiver, w.route, w.by)}
		for _, i := range w.alerts {
			g.Ids = append(g.Ids, modelShort(shown[i].Source+"\x00", shown[i].Fields))
		}
		slices.Sort(g.Ids)
		all = append(all, g)
	}
	if got := groups(t, what, p, receiver, l, 6); shape(got) != shape(all) {
		t.Errorf("%s: Groups to %q are%s\nnot%s", what, receiver, shape(got), shape(all))
	}
}
