package policy

import (
	"fmt"
	"math"
	"math/rand"
	"regexp"
	"slices"
	"strings"
	"testing"

	"lychgate/api"
	"lychgate/label"
	"lychgate/pattern"
)

// modelName is the form of a name.
var modelName = regexp.MustCompile(`\A[a-z_][a-z0-9_]{0,11}\z`)

// labels are valid labels, and strange others that are not.
func labels() (valid, others []api.Label) {
	for level := range 8 {
		for _, cats := range []uint32{0, 1, 2, 3, 1 << 31, math.MaxUint32} {
			valid = append(valid, api.Label{Level: level, Cats: cats})
		}
	}
	for _, level := range []int{-1, 8, 9, math.MinInt, math.MaxInt} {
		others = append(others, api.Label{Level: level}, api.Label{Level: level, Cats: 3})
	}
	return valid, others
}

// whole returns a policy with two elements in each of its lists.
func whole() api.Policy {
	return api.Policy{
		Sources:   []api.Named{{Name: "prom", Label: api.Label{Level: 2, Cats: 2}}, {Name: "cron"}},
		Receivers: []api.Named{{Name: "pager", Label: api.Label{Level: 3, Cats: 2}}, {Name: "mail", Label: api.Label{Level: 1}}},
		People:    []api.Named{{Name: "ann", Label: api.Label{Level: 7, Cats: 5}}, {Name: "bob", Label: api.Label{Level: 1}}},
		Raises:    []api.Named{{Name: "host", Label: api.Label{Level: 4}}, {Name: "note", Label: api.Label{Cats: 1 << 31}}},
		Routes: []api.Route{
			{Receiver: "pager", By: []string{"team", "host"}, Wait: 10, Interval: 60, Repeat: 600, When: []api.Matcher{{Name: "sev", Value: "a b"}, {Name: "host", Op: api.MatchNotLike, Value: "x.*"}}},
			{Receiver: "mail", Interval: 1, Repeat: 1},
		},
		Inhibits: []api.Inhibit{
			{By: []string{"team"}, Label: api.Label{Level: 1}, From: []api.Matcher{{Name: "sev", Value: "high"}}, When: []api.Matcher{{Name: "sev", Op: api.MatchNot, Value: "high"}}},
			{Label: api.Label{Level: 2, Cats: 6}},
		},
	}
}

// shape returns a text that is the same for policies that are equal in every
// field.
func shape(p api.Policy) string {
	return strings.ReplaceAll(fmt.Sprintf("%#v", p), "(nil)", "{}")
}

// names returns n names.
func names(n int) []string {
	var l []string
	for i := range n {
		l = append(l, fmt.Sprintf("n%02d", i))
	}
	return l
}

// named returns n elements with names and valid labels.
func named(n int) []api.Named {
	var l []api.Named
	for i, name := range names(n) {
		l = append(l, api.Named{Name: name, Label: api.Label{Level: i % 8, Cats: uint32(i)}})
	}
	return l
}

// matchers returns n valid matchers.
func matchers(n int) []api.Matcher {
	var l []api.Matcher
	for i, name := range names(n) {
		l = append(l, api.Matcher{Name: name, Op: i % 4, Value: "v" + name})
	}
	return l
}

// lists returns the four lists of p that have names.
func lists(p *api.Policy) map[string]*[]api.Named {
	return map[string]*[]api.Named{"source": &p.Sources, "receiver": &p.Receivers, "person": &p.People, "raise": &p.Raises}
}

// lengthen returns, by its name, what makes each of the six lists n long.
func lengthen(n int) map[string]func(p *api.Policy) {
	return map[string]func(p *api.Policy){
		"sources":   func(p *api.Policy) { p.Sources = named(n) },
		"receivers": func(p *api.Policy) { p.Receivers, p.Routes = named(n), nil },
		"people":    func(p *api.Policy) { p.People = named(n) },
		"raises":    func(p *api.Policy) { p.Raises = named(n) },
		"routes":    func(p *api.Policy) { p.Routes = slices.Repeat(p.Routes[:1], n) },
		"inhibits":  func(p *api.Policy) { p.Inhibits = slices.Repeat(p.Inhibits[:1], n) },
	}
}

// checks holds Check of p against what is wanted, and Print and the parsing of
// its text beside it.
func checks(t *testing.T, what string, p api.Policy, want api.Errno) {
	t.Helper()
	before := shape(p)
	if e := Check(p); e != want {
		t.Errorf("%s: Check is %d, not %d, of %.300s", what, e, want, before)
	}
	s, e := Print(p)
	if e != want || (e != api.OK && s != "") {
		t.Errorf("%s: Print is %.300q, %d, not %d", what, s, e, want)
	}
	if shape(p) != before {
		t.Errorf("%s: the policy was changed", what)
	}
	if want != api.OK {
		return
	}
	if s != modelText(p) {
		t.Errorf("%s: Print is %q, not %q", what, s, modelText(p))
	}
	if again, k, e := Parse(s); k != 0 || e != api.OK || shape(again) != before || !Same(p, again) {
		t.Errorf("%s: Parse(%q) is %v, %d, %d", what, s, again, k, e)
	}
}

// TestCheck (P8.1, P8.2): policies that are valid.
func TestCheck(t *testing.T) {
	checks(t, "empty", api.Policy{}, api.OK)
	checks(t, "empty lists", api.Policy{Sources: []api.Named{}, Receivers: []api.Named{}, People: []api.Named{}, Raises: []api.Named{}, Routes: []api.Route{}, Inhibits: []api.Inhibit{}}, api.OK)
	checks(t, "whole", whole(), api.OK)
	for i := range 6 {
		p := whole()
		switch i {
		case 0:
			p.Sources = nil
		case 1:
			p.Receivers, p.Routes = nil, nil
		case 2:
			p.People = nil
		case 3:
			p.Raises = nil
		case 4:
			p.Routes = nil
		case 5:
			p.Inhibits = nil
		}
		checks(t, fmt.Sprint("without list ", i), p, api.OK)
	}
	checks(t, "inhibits alone", api.Policy{Inhibits: whole().Inhibits}, api.OK)
}

// TestCheckOfLengths (P8.1): each list may have 12 elements, and not 13; one
// that is too long is told ahead of what else is wrong, wherever that is.
func TestCheckOfLengths(t *testing.T) {
	for n, want := range map[int]api.Errno{1: api.OK, 11: api.OK, 12: api.OK, 13: api.ErrLong, 14: api.ErrLong, 1000: api.ErrLong} {
		for what, long := range lengthen(n) {
			p := whole()
			long(&p)
			checks(t, fmt.Sprint(n, " ", what), p, want)
			if n != 13 {
				continue
			}
			for wrong, spoil := range spoilers() {
				p := whole()
				spoil(&p)
				long(&p)
				checks(t, fmt.Sprint(n, " ", what, ", ", wrong), p, want)
			}
		}
	}
	all := api.Policy{Sources: named(12), Receivers: named(12), People: named(12), Raises: named(12)}
	for i := range 12 {
		all.Routes = append(all.Routes, api.Route{Receiver: names(12)[i], By: names(i % 9), Wait: i, Interval: 1 + i, Repeat: 1 + 2*i, When: matchers(i + 1)})
		all.Inhibits = append(all.Inhibits, api.Inhibit{By: names(i % 9), Label: api.Label{Level: i % 8}, From: matchers(12 - i), When: matchers(i)})
	}
	checks(t, "12 of everything", all, api.OK)
	p := all
	p.Sources = append(named(12), api.Named{Name: "a"})
	checks(t, "a 13th source", p, api.ErrLong)
	p.Sources = append(named(12), api.Named{Name: "n00"})
	checks(t, "a 13th source, twice there", p, api.ErrLong)
	p.Sources = append(named(12), api.Named{Name: "A", Label: api.Label{Level: 8}})
	checks(t, "a 13th source that is not valid", p, api.ErrLong)
	p.Sources = append(named(11), api.Named{Name: "A"})
	checks(t, "a 12th source that is not valid", p, api.ErrArg)
}

// spoilers returns, by its name, what makes the whole policy one that is not
// valid.
func spoilers() map[string]func(p *api.Policy) {
	l := map[string]func(p *api.Policy){}
	for _, name := range []string{"", "A", "1a", "-", "a-b", "a b", "#a", "\"a\"", "é", "a\n", "abcdefghijklm"} {
		for kind := range lists(&api.Policy{}) {
			for i := range 2 {
				l[fmt.Sprintf("%s %d named %q", kind, i, name)] = func(p *api.Policy) { (*lists(p)[kind])[i].Name = name }
			}
		}
		l[fmt.Sprintf("receiver %q of a route", name)] = func(p *api.Policy) { p.Routes[1].Receiver = name }
		l[fmt.Sprintf("%q in By of a route", name)] = func(p *api.Policy) { p.Routes[0].By[1] = name }
		l[fmt.Sprintf("%q first in By of an inhibit", name)] = func(p *api.Policy) { p.Inhibits[0].By[0] = name }
	}
	for kind := range lists(&api.Policy{}) {
		l[kind+" twice"] = func(p *api.Policy) { m := *lists(p)[kind]; m[1].Name = m[0].Name }
		l[kind+" twice, with one label"] = func(p *api.Policy) { m := *lists(p)[kind]; m[1] = m[0] }
		l[kind+" twice, and another"] = func(p *api.Policy) { m := lists(p)[kind]; *m = append(*m, (*m)[0]) }
	}
	_, others := labels()
	for _, a := range others {
		for kind := range lists(&api.Policy{}) {
			l[fmt.Sprint(kind, " labelled ", a)] = func(p *api.Policy) { (*lists(p)[kind])[1].Label = a }
		}
		l[fmt.Sprint("inhibit labelled ", a)] = func(p *api.Policy) { p.Inhibits[1].Label = a }
	}
	for what, m := range wrongMatchers() {
		l["When of a route: "+what] = func(p *api.Policy) { p.Routes[1].When = m }
		l["From of an inhibit: "+what] = func(p *api.Policy) { p.Inhibits[1].From = m }
		l["When of an inhibit: "+what] = func(p *api.Policy) { p.Inhibits[1].When = m }
	}
	for _, n := range []int{9, 10, 12, 13, 1000} {
		l[fmt.Sprint(n, " names in By of a route")] = func(p *api.Policy) { p.Routes[1].By = names(n) }
		l[fmt.Sprint(n, " names in By of an inhibit")] = func(p *api.Policy) { p.Inhibits[1].By = names(n) }
	}
	for what, by := range map[string][]string{"two": {"a", "a"}, "first and last": {"a", "b", "c", "a"}, "last of 8": append(names(7), "n06"), "first of 8": append(names(7), "n00"), "one of 9": append(names(8), "n07")} {
		l["a name twice in By of a route: "+what] = func(p *api.Policy) { p.Routes[1].By = by }
		l["a name twice in By of an inhibit: "+what] = func(p *api.Policy) { p.Inhibits[1].By = by }
	}
	l["a receiver that is a source"] = func(p *api.Policy) { p.Routes[1].Receiver = "prom" }
	l["a receiver that is a person"] = func(p *api.Policy) { p.Routes[0].Receiver = "ann" }
	l["a receiver that is a field"] = func(p *api.Policy) { p.Routes[0].Receiver = "host" }
	l["a receiver that is another's beginning"] = func(p *api.Policy) { p.Routes[0].Receiver = "page" }
	l["no receivers"] = func(p *api.Policy) { p.Receivers = nil }
	l["a receiver that went"] = func(p *api.Policy) { p.Receivers = p.Receivers[:1] }
	return l
}

// wrongMatchers returns, by its name, what no When and no From may be.
func wrongMatchers() map[string][]api.Matcher {
	good := api.Matcher{Name: "a", Value: "b"}
	l := map[string][]api.Matcher{"13": matchers(13), "14": matchers(14), "1000": matchers(1000), "13 times one": slices.Repeat([]api.Matcher{good}, 13)}
	for c := range 32 {
		for i := range 4 {
			one := string([]byte{byte(c)})
			l[fmt.Sprintf("byte %d, Op %d", c, i)] = []api.Matcher{{Name: "a", Op: i, Value: []string{"", "x"}[i%2] + one + []string{"y", ""}[i/2]}}
		}
		l[fmt.Sprintf("byte %d behind another matcher", c)] = []api.Matcher{good, {Name: "b", Value: "a b" + string([]byte{byte(c)})}}
		l[fmt.Sprintf("byte %d ahead of another matcher", c)] = []api.Matcher{{Name: "b", Value: string([]byte{byte(c)})}, good}
	}
	for what, m := range map[string]api.Matcher{
		"no name": {}, "name": {Name: "A"}, "long name": {Name: "abcdefghijklm"}, "byte in a name": {Name: "a\t"}, "blank in a name": {Name: "a b"}, "quote in a name": {Name: `a"`},
		"Op 4": {Name: "a", Op: 4}, "Op -1": {Name: "a", Op: -1}, "least Op": {Name: "a", Op: math.MinInt}, "greatest Op": {Name: "a", Op: math.MaxInt},
		"long value": {Name: "a", Value: strings.Repeat("v", 201)}, "pattern": {Name: "a", Op: api.MatchLike, Value: "("}, "pattern not": {Name: "a", Op: api.MatchNotLike, Value: "*"},
	} {
		l[what] = []api.Matcher{m}
		l[what+" last of 12"] = append(matchers(11), m)
		l[what+" first of 12"] = append([]api.Matcher{m}, matchers(11)...)
	}
	return l
}

// TestCheckOfWrong (P8.1): one thing that is not as it has to be is enough.
func TestCheckOfWrong(t *testing.T) {
	for what, spoil := range spoilers() {
		p := whole()
		spoil(&p)
		checks(t, what, p, api.ErrArg)
	}
}

// TestCheckOfNames (P8.1): a name may be in several lists, and in several
// routes and inhibits; names at the edges of what they may be.
func TestCheckOfNames(t *testing.T) {
	p := whole()
	for _, l := range lists(&p) {
		*l = []api.Named{{Name: "host"}, {Name: "a", Label: api.Label{Level: 7}}, {Name: "abcdefghijkl"}, {Name: "_"}, {Name: "abcdefghijkm"}, {Name: "source"}}
	}
	p.Routes = []api.Route{{Receiver: "host", By: []string{"host", "a"}, Interval: 1, Repeat: 1}, {Receiver: "host", By: []string{"a", "host"}, Interval: 1, Repeat: 1}, {Receiver: "_", Interval: 1, Repeat: 1}, {Receiver: "abcdefghijkm", Interval: 1, Repeat: 1}, {Receiver: "source", Interval: 1, Repeat: 1}}
	p.Inhibits = []api.Inhibit{{By: []string{"host", "_", "abcdefghijkl"}}, {By: []string{"host"}}, {By: []string{"host"}}}
	checks(t, "one name in all lists", p, api.OK)
	for n := range 9 {
		p := whole()
		p.Routes[1].By, p.Inhibits[1].By = names(n), names(8-n)
		checks(t, fmt.Sprint(n, " names in By"), p, api.OK)
	}
	p = whole()
	p.Routes[1].By, p.Inhibits[1].By = []string{}, []string{}
	checks(t, "empty By", p, api.OK)
}

// TestCheckOfLabels (P8.1): every kind of label, where one is asked for.
func TestCheckOfLabels(t *testing.T) {
	valid, _ := labels()
	for _, a := range valid {
		p := whole()
		for _, l := range lists(&p) {
			(*l)[1].Label = a
		}
		p.Inhibits[1].Label = a
		checks(t, fmt.Sprint(a), p, api.OK)
	}
}

// TestCheckOfTimes (P8.1): Wait, Interval and Repeat at and beyond their edges.
func TestCheckOfTimes(t *testing.T) {
	waits := []int{math.MinInt, -1, 0, 1, 999, 1000, 1001, math.MaxInt}
	intervals := []int{math.MinInt, -1, 0, 1, 2, 999, 1000, 1001, math.MaxInt}
	repeats := []int{math.MinInt, -1, 0, 1, 2, 998, 999, 1000, 1001, 99999, 100000, 100001, math.MaxInt}
	for _, wait := range waits {
		for _, interval := range intervals {
			for _, repeat := range repeats {
				for i := range 2 {
					p := whole()
					p.Routes[i].Wait, p.Routes[i].Interval, p.Routes[i].Repeat = wait, interval, repeat
					want := api.ErrArg
					if wait >= 0 && wait < 1001 && interval > 0 && interval < 1001 && repeat >= interval && repeat < 100001 {
						want = api.OK
					}
					checks(t, fmt.Sprint(wait, interval, repeat), p, want)
				}
			}
		}
	}
}

// TestCheckOfMatchers (P8.1): When and From with up to 12 matchers, and with
// values that are as strange as they may be.
func TestCheckOfMatchers(t *testing.T) {
	for n := range 13 {
		p := whole()
		p.Routes[1].When, p.Inhibits[1].From, p.Inhibits[1].When = matchers(n), matchers(12-n), matchers(max(n, 1)-1)
		checks(t, fmt.Sprint(n, " matchers"), p, api.OK)
	}
	var every []byte
	for c := 32; c < 256; c++ {
		every = append(every, byte(c))
	}
	for _, value := range []string{"", " ", "  ", "-", "#", " #", " # ", `"`, `\`, `"\`, `\"`, `\\`, `" "`, `" #`, ",", `",b="c`, "\x7f", "é", "\xff\x80", string(every[:200]), string(every[24:]), strings.Repeat(`"`, 200), strings.Repeat(`\`, 200), strings.Repeat(" ", 200)} {
		for op := range 4 {
			m := api.Matcher{Name: "a", Op: op, Value: value}
			if op >= api.MatchLike {
				m.Value = pattern.Quote(value)
			}
			if len(m.Value) > 200 || op >= api.MatchLike && pattern.Right(m.Value) != api.OK {
				continue
			}
			p := whole()
			p.Routes[0].When = []api.Matcher{m}
			p.Inhibits[0].From = []api.Matcher{m, m}
			p.Inhibits[1].When = []api.Matcher{{Name: "b", Value: "c"}, m}
			checks(t, fmt.Sprintf("%+q, %d", m.Value, op), p, api.OK)
		}
	}
}

// TestSame (P8.1): policies that differ in one thing, lists that are empty or
// nil, and policies that are not valid.
func TestSame(t *testing.T) {
	if !Same(whole(), whole()) || !Same(api.Policy{}, api.Policy{}) {
		t.Error("a policy is not the same as itself")
	}
	empty := api.Policy{Sources: []api.Named{}, Receivers: []api.Named{}, People: []api.Named{}, Raises: []api.Named{}, Routes: []api.Route{}, Inhibits: []api.Inhibit{}}
	if !Same(empty, api.Policy{}) || !Same(api.Policy{}, empty) {
		t.Error("empty lists are not the same as nil")
	}
	p := whole()
	p.Routes[1].By, p.Routes[1].When = []string{}, []api.Matcher{}
	p.Inhibits[1].By, p.Inhibits[1].From, p.Inhibits[1].When = []string{}, []api.Matcher{}, []api.Matcher{}
	if !Same(p, whole()) || !Same(whole(), p) {
		t.Error("empty lists within routes and inhibits are not the same as nil")
	}
	var all []api.Policy
	for _, change := range changes() {
		p := whole()
		change(&p)
		all = append(all, p)
	}
	for _, spoil := range spoilers() {
		p := whole()
		spoil(&p)
		all = append(all, p)
	}
	all = append(all, whole(), api.Policy{})
	differ := 0
	for _, a := range all {
		for _, b := range []api.Policy{all[differ%len(all)], whole(), a} {
			if want := shape(a) == shape(b); Same(a, b) != want || Same(b, a) != want {
				t.Errorf("Same is not %v of\n%s\n%s", want, shape(a), shape(b))
			}
		}
		differ++
	}
	for what, change := range changes() {
		p := whole()
		change(&p)
		if Same(p, whole()) || Same(whole(), p) {
			t.Errorf("%s: the same", what)
		}
	}
}

// changes returns, by its name, what makes the whole policy another one.
func changes() map[string]func(p *api.Policy) {
	l := map[string]func(p *api.Policy){
		"route gone":        func(p *api.Policy) { p.Routes = p.Routes[:1] },
		"route twice":       func(p *api.Policy) { p.Routes = append(p.Routes, p.Routes[1]) },
		"route order":       func(p *api.Policy) { slices.Reverse(p.Routes) },
		"route receiver":    func(p *api.Policy) { p.Routes[1].Receiver = "pager" },
		"route by":          func(p *api.Policy) { p.Routes[0].By[1] = "hosts" },
		"route by gone":     func(p *api.Policy) { p.Routes[0].By = p.Routes[0].By[:1] },
		"route by more":     func(p *api.Policy) { p.Routes[1].By = []string{"a"} },
		"route by order":    func(p *api.Policy) { slices.Reverse(p.Routes[0].By) },
		"route wait":        func(p *api.Policy) { p.Routes[0].Wait++ },
		"route interval":    func(p *api.Policy) { p.Routes[0].Interval++ },
		"route repeat":      func(p *api.Policy) { p.Routes[1].Repeat++ },
		"route when name":   func(p *api.Policy) { p.Routes[0].When[0].Name = "a" },
		"route when op":     func(p *api.Policy) { p.Routes[0].When[1].Op = 1 },
		"route when value":  func(p *api.Policy) { p.Routes[0].When[1].Value = "y" },
		"route when gone":   func(p *api.Policy) { p.Routes[0].When = nil },
		"route when order":  func(p *api.Policy) { slices.Reverse(p.Routes[0].When) },
		"inhibit gone":      func(p *api.Policy) { p.Inhibits = p.Inhibits[1:] },
		"inhibit order":     func(p *api.Policy) { slices.Reverse(p.Inhibits) },
		"inhibit by":        func(p *api.Policy) { p.Inhibits[0].By[0] = "host" },
		"inhibit by gone":   func(p *api.Policy) { p.Inhibits[0].By = nil },
		"inhibit level":     func(p *api.Policy) { p.Inhibits[0].Label.Level = 0 },
		"inhibit teams":     func(p *api.Policy) { p.Inhibits[1].Label.Cats = 7 },
		"inhibit from":      func(p *api.Policy) { p.Inhibits[0].From[0].Op = 1 },
		"inhibit from more": func(p *api.Policy) { p.Inhibits[1].From = matchers(1) },
		"inhibit when":      func(p *api.Policy) { p.Inhibits[0].When[0].Value = "" },
		"inhibit when more": func(p *api.Policy) { p.Inhibits[0].When = append(p.Inhibits[0].When, p.Inhibits[0].When[0]) },
		"from and when":     func(p *api.Policy) { i := &p.Inhibits[0]; i.From, i.When = i.When, i.From },
		"sources, people":   func(p *api.Policy) { p.Sources, p.People = p.People, p.Sources },
		"people, raises":    func(p *api.Policy) { p.Raises, p.People = p.People, p.Raises },
	}
	for kind := range lists(&api.Policy{}) {
		l[kind+" name"] = func(p *api.Policy) { (*lists(p)[kind])[1].Name = "z" }
		l[kind+" level"] = func(p *api.Policy) { (*lists(p)[kind])[0].Label.Level = 5 }
		l[kind+" teams"] = func(p *api.Policy) { (*lists(p)[kind])[1].Label.Cats = 9 }
		l[kind+" order"] = func(p *api.Policy) { slices.Reverse(*lists(p)[kind]) }
		l[kind+" gone"] = func(p *api.Policy) { m := lists(p)[kind]; *m = (*m)[:1] }
		l[kind+" more"] = func(p *api.Policy) { m := lists(p)[kind]; *m = append(*m, api.Named{}) }
		l[kind+" all gone"] = func(p *api.Policy) { *lists(p)[kind] = nil }
	}
	return l
}

// TestFind (P8.1): the first element with the name, whether it is valid or not.
func TestFind(t *testing.T) {
	one, two, bad := api.Label{Level: 1, Cats: 1}, api.Label{Level: 2}, api.Label{Level: -3, Cats: 5}
	l := []api.Named{{Name: "a", Label: one}, {Name: "b", Label: two}, {Name: "a", Label: two}, {Name: "", Label: bad}, {Name: "C", Label: bad}, {Name: "zero"}, {Name: "zero", Label: one}}
	for name, want := range map[string]api.Label{"a": one, "b": two, "": bad, "C": bad, "zero": {}} {
		if a, ok := Find(l, name); a != want || !ok {
			t.Errorf("Find(%q) is %v, %v", name, a, ok)
		}
	}
	for _, name := range []string{"c", "A", "ab", "zer", "zeros", " a", "a ", "\x00", "z", strings.Repeat("a", 1<<16)} {
		if a, ok := Find(l, name); a != (api.Label{}) || ok {
			t.Errorf("Find(%.20q) is %v, %v", name, a, ok)
		}
	}
	for _, l := range [][]api.Named{nil, {}, {{Name: "b", Label: one}}} {
		for _, name := range []string{"a", ""} {
			if a, ok := Find(l, name); a != (api.Label{}) || ok {
				t.Errorf("Find(%v, %q) is %v, %v", l, name, a, ok)
			}
		}
	}
}

// TestRaised (P8.1): with and without a Raise of the field, for labels that are
// valid and others.
func TestRaised(t *testing.T) {
	valid, others := labels()
	right := func(a api.Label) bool { return slices.Contains(valid, a) }
	for _, raise := range slices.Concat(valid, others) {
		p := whole()
		p.Raises = []api.Named{{Name: "other", Label: api.Label{Level: 6}}, {Name: "field", Label: raise}, {Name: "field", Label: api.Label{Level: 7}}}
		for _, a := range slices.Concat(valid, others) {
			want := api.Label{Level: 7, Cats: math.MaxUint32}
			if right(a) && right(raise) {
				want = api.Label{Level: max(a.Level, raise.Level), Cats: a.Cats | raise.Cats}
			}
			if got := Raised(p, "field", a); got != want {
				t.Errorf("raised by %v, %v is %v", raise, a, got)
			}
			for _, field := range []string{"", "fields", "Field", "prom", "pager", "ann", "team"} {
				if got := Raised(p, field, a); got != a {
					t.Errorf("without a Raise, %v is %v", a, got)
				}
			}
		}
	}
	if a := (api.Label{Level: 3, Cats: 9}); Raised(api.Policy{}, "field", a) != a {
		t.Error("the empty policy raises a field")
	}
}

// TestVisible (P8.1): fields that flow and fields that do not, in order.
func TestVisible(t *testing.T) {
	p := api.Policy{Raises: []api.Named{{Name: "b", Label: api.Label{Level: 4}}, {Name: "c", Label: api.Label{Cats: 1}}, {Name: "e", Label: api.Label{Level: 2, Cats: 2}}, {Name: "x", Label: api.Label{Level: 7}}}}
	l := []api.Field{{Name: "a", Value: "1"}, {Name: "b", Value: "2"}, {Name: "c", Value: "3"}, {Name: "d", Value: "4"}, {Name: "e", Value: "5"}}
	for _, c := range []struct {
		base, to api.Label
		want     string
	}{
		{api.Label{}, api.Label{}, "ad"}, {api.Label{}, api.Label{Level: 3}, "ad"}, {api.Label{}, api.Label{Level: 4}, "abd"}, {api.Label{}, api.Label{Level: 7}, "abd"},
		{api.Label{}, api.Label{Cats: 1}, "acd"}, {api.Label{}, api.Label{Level: 1, Cats: 3}, "acd"}, {api.Label{}, api.Label{Level: 2, Cats: 2}, "ade"}, {api.Label{}, api.Label{Level: 2, Cats: 3}, "acde"}, {api.Label{}, api.Label{Level: 4, Cats: 3}, "abcde"},
		{api.Label{Level: 3}, api.Label{Level: 3}, "ad"}, {api.Label{Level: 3}, api.Label{Level: 2, Cats: 3}, ""}, {api.Label{Level: 5}, api.Label{Level: 5}, "abd"}, {api.Label{Level: 5}, api.Label{Level: 4}, ""},
		{api.Label{Cats: 4}, api.Label{Level: 7, Cats: 3}, ""}, {api.Label{Cats: 4}, api.Label{Level: 7, Cats: 7}, "abcde"}, {api.Label{Cats: 1}, api.Label{Level: 4, Cats: 1}, "abcd"},
		{api.Label{Level: -1}, api.Label{Level: 7, Cats: 7}, ""}, {api.Label{}, api.Label{Level: 8, Cats: 7}, ""}, {api.Label{Level: 8}, api.Label{Level: 8, Cats: math.MaxUint32}, ""}, {api.Label{}, api.Label{Level: -1}, ""},
		{api.Label{Level: 8}, api.Label{Level: 7, Cats: math.MaxUint32}, "bce"}, // a join with a label that is not valid is the highest one
	} {
		var want []api.Field
		for _, f := range l {
			if strings.Contains(c.want, f.Name) {
				want = append(want, f)
			}
		}
		if got := Visible(p, l, c.base, c.to); !slices.Equal(got, want) {
			t.Errorf("Visible for %v to %v is %v", c.base, c.to, got)
		}
	}
	to := api.Label{Level: 4}
	if got := Visible(p, nil, to, to); len(got) != 0 {
		t.Error("of no fields:", got)
	}
	strange := []api.Field{{Name: "z", Value: "\xff"}, {Name: "e"}, {Name: "b", Value: "1"}, {Name: ""}, {Name: "b", Value: "2"}, {Name: "a"}, {Name: "z"}}
	if got, want := Visible(p, strange, to, to), slices.Concat(strange[:1], strange[2:]); !slices.Equal(got, want) {
		t.Error("of fields in another order:", got)
	}
}

// TestVisibleOfMore (P8.2): a label to which more flows has no fewer visible
// fields.
func TestVisibleOfMore(t *testing.T) {
	r := rand.New(rand.NewSource(11))
	some := func() api.Label { return api.Label{Level: r.Intn(8), Cats: uint32(r.Intn(8))} }
	hidden, shown := 0, 0
	for range 20000 {
		var p api.Policy
		var l []api.Field
		for _, name := range names(8) {
			if r.Intn(3) > 0 {
				p.Raises = append(p.Raises, api.Named{Name: name, Label: some()})
			}
			l = append(l, api.Field{Name: name, Value: name})
		}
		base, to := some(), some()
		more := label.Join(to, some())
		few, many := Visible(p, l, base, to), Visible(p, l, base, more)
		for _, f := range few {
			if !slices.Contains(many, f) {
				t.Fatalf("%v is visible to %v, and not to %v", f, to, more)
			}
		}
		for _, f := range l {
			if slices.Contains(few, f) != label.Flows(Raised(p, f.Name, base), to) {
				t.Fatalf("%v to %v, which the raised label %v is", f, to, Raised(p, f.Name, base))
			}
		}
		hidden += len(l) - len(many)
		shown += len(few)
	}
	if hidden < 1000 || shown < 1000 {
		t.Error(hidden, "hidden", shown, "shown")
	}
}

// TestMemory (R4): results are new, arguments stay as they are.
func TestMemory(t *testing.T) {
	p := whole()
	l := []api.Field{{Name: "host", Value: "h"}, {Name: "team", Value: "t"}}
	to := api.Label{Level: 7, Cats: math.MaxUint32}
	got := Visible(p, l, api.Label{}, to)
	if len(got) != 2 {
		t.Fatal(got)
	}
	got[0].Name = "x"
	_ = append(got[:1], api.Field{Name: "y"})
	got = Visible(p, l[:1], api.Label{}, to)
	_ = append(got, api.Field{Name: "y"})
	if l[0].Name != "host" || l[1].Name != "team" {
		t.Error("Visible shares memory with its fields:", l)
	}
	Same(p, whole())
	Find(p.Sources, "prom")
	Raised(p, "host", to)
	if shape(p) != shape(whole()) {
		t.Error("the policy was changed")
	}
	text := modelText(p)
	one, _, _ := Parse(text)
	one.Routes[0].By[0], one.Routes[0].When[0].Value, one.Sources[0].Name = "x", "x", "x"
	one.Inhibits[0].From = append(one.Inhibits[0].From, api.Matcher{Name: "x"})
	one.Receivers = append(one.Receivers[:1], one.Receivers[1:]...)
	if two, _, _ := Parse(text); shape(two) != shape(p) {
		t.Error("two policies share memory")
	}
}
