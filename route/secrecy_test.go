package route

import (
	"fmt"
	"math/rand"
	"slices"
	"strings"
	"testing"

	"lychgate/alert"
	"lychgate/api"
	"lychgate/policy"
)

// some returns one of these.
func some[T any](r *rand.Rand, l ...T) T {
	return l[r.Intn(len(l))]
}

func randomLabel(r *rand.Rand) api.Label {
	return api.Label{Level: r.Intn(5), Cats: some(r, uint32(0), 0, 1, 2, 3)}
}

func randomMatchers(r *rand.Rand) []api.Matcher {
	var l []api.Matcher
	for range some(r, 0, 0, 1, 1, 2) {
		l = append(l, api.Matcher{Name: some(r, "a", "b", "c", "d"), Op: r.Intn(4), Value: some(r, "", "x", "y", "x|y", "[^x]", "x?")})
	}
	return l
}

// randomPolicy returns a valid policy with the receivers pager and mail.
func randomPolicy(r *rand.Rand) api.Policy {
	p := api.Policy{Receivers: []api.Named{{Name: "pager", Label: randomLabel(r)}, {Name: "mail", Label: randomLabel(r)}}}
	for _, name := range []string{"a", "b", "c"} {
		if r.Intn(2) == 0 {
			p.Raises = append(p.Raises, api.Named{Name: name, Label: randomLabel(r)})
		}
	}
	for range r.Intn(6) {
		names := []string{"a", "b", "c", "d", "zone"}
		r.Shuffle(len(names), func(i, k int) { names[i], names[k] = names[k], names[i] })
		p.Routes = append(p.Routes, when(to(some(r, "pager", "pager", "mail"), names[:r.Intn(4)]...), randomMatchers(r)...))
	}
	return p
}

// randomAlert returns a valid alert.
func randomAlert(r *rand.Rand) alert.Alert {
	a := alert.Alert{Source: some(r, "prom", "prom", "cron"), Label: randomLabel(r), From: r.Intn(8), To: some(r, 0, 0, 8, 9, 10)}
	for len(a.Fields) == 0 {
		for _, name := range []string{"a", "b", "c", "d"} {
			if r.Intn(3) > 0 {
				a.Fields = append(a.Fields, api.Field{Name: name, Value: randomValue(r)})
			}
		}
	}
	return a
}

func randomValue(r *rand.Rand) string {
	return some(r, "", "x", "x", "y", "xy", "x\x00b=x", "x\x00c=y", "=", "\xff")
}

// TestAtRandom (P11.1): policies and alerts at random, some of them not valid,
// held against the model.
func TestAtRandom(t *testing.T) {
	r := rand.New(rand.NewSource(11))
	for i := range 6000 {
		p := randomPolicy(r)
		if policy.Check(p) != api.OK {
			t.Fatalf("the policy is not valid: %v", p)
		}
		var l []alert.Alert
		for range r.Intn(12) {
			a := randomAlert(r)
			if r.Intn(9) == 0 {
				a.Source = "A"
			}
			l = append(l, a)
		}
		if r.Intn(20) == 0 {
			p.People = []api.Named{{Name: "A"}}
		}
		receiver, now := some(r, "pager", "pager", "mail", "zz"), r.Intn(12)
		what := fmt.Sprint("policy ", i)
		groups(t, what, p, receiver, l, now)
		for _, a := range l {
			goes(t, what, p, receiver, a, now, modelGoes(p, receiver, a, now)...)
		}
		if t.Failed() {
			t.Fatalf("the policy is %+v,\nthe alerts are %#v", p, l)
		}
	}
}

// hides returns the alerts of l as another history might have them of which the
// label knows the same: alerts that do not flow there are gone, changed or
// added, and the values of fields that it may not see are others. The second
// result is for each alert of l that stays where it is now.
func hides(r *rand.Rand, p api.Policy, l []alert.Alert, label api.Label) ([]alert.Alert, map[int]int) {
	var other []alert.Alert
	at := map[int]int{}
	hidden := func() {
		for r.Intn(2) == 0 {
			a := randomAlert(r)
			a.Label = some(r, api.Label{Level: 7, Cats: label.Cats}, api.Label{Level: label.Level, Cats: label.Cats | 1<<31}, api.Label{Level: 5})
			other = append(other, a)
		}
	}
	for i, a := range l {
		hidden()
		if !modelFlows(a.Label, label) {
			continue
		}
		a.Fields = slices.Clone(a.Fields)
		for k, f := range a.Fields {
			if !modelFlows(policy.Raised(p, f.Name, a.Label), label) {
				a.Fields[k].Value = some(r, randomValue(r), strings.Repeat("s", r.Intn(201)))
			}
		}
		at[i] = len(other)
		other = append(other, a)
	}
	hidden()
	return other, at
}

// TestSecrecyAtRandom (P11.2): alerts that do not flow to the receiver, and
// other values of fields that it may not see, change neither its groups nor by
// which routes an alert goes.
func TestSecrecyAtRandom(t *testing.T) {
	r := rand.New(rand.NewSource(112))
	told, differ := 0, 0
	for range 6000 {
		p := randomPolicy(r)
		var l []alert.Alert
		for range r.Intn(10) {
			l = append(l, randomAlert(r))
		}
		other, at := hides(r, p, l, p.Receivers[0].Label)
		for _, now := range []int{r.Intn(10), 7} {
			got, want := Groups(p, "pager", other, now), Groups(p, "pager", l, now)
			if shape(got) != shape(want) {
				t.Fatalf("Groups at %d are%s\nnot%s\nof %+v\n%#v\n%#v", now, shape(got), shape(want), p, l, other)
			}
			for i, k := range at {
				if !slices.Equal(Goes(p, "pager", l[i], now), Goes(p, "pager", other[k], now)) {
					t.Fatalf("Goes at %d of %#v and %#v differ with %+v", now, l[i], other[k], p)
				}
			}
			told += len(want)
		}
		if fmt.Sprint(l) != fmt.Sprint(other) {
			differ++
		}
	}
	if told < 6000 || differ < 3000 {
		t.Errorf("there is little to tell: %d groups, %d lists that differ", told, differ)
	}
}

// TestSecrecyOfAlerts (P11.2): an alert that does not flow to the receiver
// changes no group, though it would be in one, or its first alert.
func TestSecrecyOfAlerts(t *testing.T) {
	p := three(to("mail", "team"), when(to("mail"), is("sev", "high")...), to("pager", "team"))
	l := []alert.Alert{whole(), of("host", "i", "team", "u"), of("host", "k", "sev", "low", "team", "t")}
	want := Groups(p, "mail", l, 6)
	if len(want) != 3 {
		t.Fatalf("there are %s", shape(want))
	}
	for _, x := range []api.Label{{Level: 3, Cats: 2}, {Level: 7, Cats: 2}, {Level: 2, Cats: 3}, {Level: 0, Cats: 1}, {Level: 2, Cats: 1 << 31}} {
		for _, s := range [][]string{{"host", "h", "sev", "high", "team", "t"}, {"host", "h", "sev", "high", "team", "u"}, {"sev", "high", "team", "new"}, {"zone", "z"}} {
			a := of(s...)
			a.Label = x
			for at := range 4 {
				if got := groups(t, "hidden", p, "mail", slices.Insert(slices.Clone(l), at, a), 6); shape(got) != shape(want) {
					t.Errorf("with %v at %d Groups are%s\nnot%s", a, at, shape(got), shape(want))
				}
			}
			goes(t, "hidden", p, "mail", a, 6)
		}
	}
}

// TestSecrecyOfValues (P11.2): other values of a field that the receiver may
// not see change nothing, even if By or When name that field.
func TestSecrecyOfValues(t *testing.T) {
	p := three(to("mail", "host"), to("mail", "team", "host"), when(to("mail", "team"), is("host", "h")...), when(to("mail", "team"), api.Matcher{Name: "host", Op: api.MatchNot, Value: "h"}),
		when(to("mail", "host", "sev"), api.Matcher{Name: "host", Op: api.MatchLike, Value: ".?"}), when(to("mail"), is("sev", "high", "note", "")...))
	l := func(host, note string) []alert.Alert {
		return []alert.Alert{of("host", host, "note", note, "sev", "high", "team", "t"), of("host", "x", "note", host, "team", "u"), of("host", note, "team", "t"), of("host", host), of("host", host, "secret", note, "team", "t")}
	}
	want := Groups(p, "mail", l("h", ""), 6)
	if len(want) != 8 {
		t.Fatalf("there are %s", shape(want))
	}
	for _, host := range []string{"", "h", "hh", "x", "\x00", "h\x00team=u", strings.Repeat("h", 200)} {
		for _, note := range []string{"", "n", "=", strings.Repeat("\xff", 200)} {
			if got := groups(t, "values", p, "mail", l(host, note), 6); shape(got) != shape(want) {
				t.Errorf("with host %q and note %q Groups are%s\nnot%s", host, note, shape(got), shape(want))
			}
			goes(t, "values", p, "mail", l(host, note)[0], 6, 0, 1, 3, 4, 5)
		}
	}
	// That the field is there at all is not told either.
	without := []alert.Alert{of("sev", "high", "team", "t"), of("team", "u"), of("team", "t"), of("team", "t")}
	if got := groups(t, "without", p, "mail", without, 6); shape(got) != shape(want) {
		t.Errorf("without the fields Groups are%s\nnot%s", shape(got), shape(want))
	}
}
