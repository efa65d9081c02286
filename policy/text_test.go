package policy

import (
	"fmt"
	"math/rand"
	"regexp"
	"slices"
	"strings"
	"testing"

	"lychgate/api"
	"lychgate/label"
	"lychgate/match"
	"lychgate/pattern"
	"lychgate/word"
)

// The chapter's forms of lines.
const (
	aName    = `[a-z_][a-z0-9_]{0,11}`
	aTeam    = `(?:[12]?[0-9]|3[01])`
	aLabel   = `([0-7](?:\+` + aTeam + `(?:,` + aTeam + `)*)?)`
	aBy      = `(-|` + aName + `(?:,` + aName + `)*)`
	aNumber  = `(0|[1-9][0-9]{0,8})`
	aMatcher = aName + `(?:=|!=|=~|!~)"(?:[^"\\\x00-\x08\n-\x1f]|\\["\\])*"`
	aWhen    = `(-|` + aMatcher + `(?:,` + aMatcher + `)*)`
	blanks   = `[ \t]+`
	behind   = `(?:[ \t]*|[ \t]+#[^\x00-\x08\n-\x1f]*)\z`
)

var (
	modelNothing = regexp.MustCompile(`\A[ \t]*(?:#[^\x00-\x08\n-\x1f]*)?\z`)
	modelNamed   = regexp.MustCompile(`\A[ \t]*(source|receiver|person|raise)` + blanks + `(` + aName + `)` + blanks + aLabel + behind)
	modelRoute   = regexp.MustCompile(`\A[ \t]*route` + blanks + `(` + aName + `)` + blanks + aBy + blanks + aNumber + blanks + aNumber + blanks + aNumber + blanks + aWhen + behind)
	modelInhibit = regexp.MustCompile(`\A[ \t]*inhibit` + blanks + aBy + blanks + aLabel + blanks + aWhen + blanks + aWhen + behind)
)

// modelMatchers reads the word of matchers.
func modelMatchers(s string) ([]api.Matcher, bool) {
	m, e := match.Read(strings.TrimPrefix(s, "-"))
	return m, e == api.OK
}

// modelLine adds what a line says to p by those forms.
func modelLine(p *api.Policy, line string) bool {
	if w := modelNamed.FindStringSubmatch(line); w != nil {
		a, e := label.Read(w[3])
		l := lists(p)[w[1]]
		*l = append(*l, api.Named{Name: w[2], Label: a})
		return e == api.OK
	}
	if w := modelRoute.FindStringSubmatch(line); w != nil {
		r := api.Route{Receiver: w[1]}
		by, e := word.Names(w[2])
		when, ok := modelMatchers(w[6])
		fmt.Sscan(w[3]+" "+w[4]+" "+w[5], &r.Wait, &r.Interval, &r.Repeat)
		r.By, r.When = by, when
		p.Routes = append(p.Routes, r)
		return e == api.OK && ok
	}
	if w := modelInhibit.FindStringSubmatch(line); w != nil {
		by, e := word.Names(w[1])
		a, labelError := label.Read(w[2])
		from, fromOK := modelMatchers(w[3])
		when, whenOK := modelMatchers(w[4])
		p.Inhibits = append(p.Inhibits, api.Inhibit{By: by, Label: a, From: from, When: when})
		return e == api.OK && labelError == api.OK && fromOK && whenOK
	}
	return modelNothing.MatchString(line)
}

// modelWhen reports whether m may be a When or a From.
func modelWhen(m []api.Matcher) bool {
	low := regexp.MustCompile(`[\x00-\x1f]`)
	return len(m) <= 12 && !slices.ContainsFunc(m, func(m api.Matcher) bool {
		return !modelName.MatchString(m.Name) || m.Op < 0 || m.Op > 3 || len(m.Value) > 200 || m.Op > 1 && pattern.Right(m.Value) != api.OK || low.MatchString(m.Value)
	})
}

// modelNames reports whether at most n names are valid, and none is twice there.
func modelNames(l []string, n int) bool {
	once := slices.Compact(slices.Sorted(slices.Values(l)))
	return len(l) <= n && len(once) == len(l) && !slices.ContainsFunc(l, func(s string) bool { return !modelName.MatchString(s) })
}

// modelCheck returns what Check has to.
func modelCheck(p api.Policy) api.Errno {
	longest, ok := max(len(p.Routes), len(p.Inhibits)), true
	for _, l := range lists(&p) {
		var names []string
		for _, n := range *l {
			names = append(names, n.Name)
			ok = ok && n.Label.Level >= 0 && n.Label.Level <= 7
		}
		longest, ok = max(longest, len(*l)), ok && modelNames(names, 12)
	}
	for _, r := range p.Routes {
		ok = ok && slices.ContainsFunc(p.Receivers, func(n api.Named) bool { return n.Name == r.Receiver }) && modelNames(r.By, 8) && modelWhen(r.When)
		ok = ok && 0 <= r.Wait && r.Wait <= 1000 && 1 <= r.Interval && r.Interval <= 1000 && r.Interval <= r.Repeat && r.Repeat <= 100000
	}
	for _, i := range p.Inhibits {
		ok = ok && i.Label.Level >= 0 && i.Label.Level <= 7 && modelNames(i.By, 8) && modelWhen(i.From) && modelWhen(i.When)
	}
	switch {
	case longest > 12:
		return api.ErrLong
	case !ok:
		return api.ErrArg
	}
	return api.OK
}

// modelText returns the text of a valid policy.
func modelText(p api.Policy) string {
	var b strings.Builder
	by := func(l []string) string { return strings.Join(slices.Concat(l, []string{"-"})[:max(len(l), 1)], ",") }
	when := func(m []api.Matcher) string {
		if s, _ := match.Text(m); len(m) > 0 {
			return s
		}
		return "-"
	}
	at := func(a api.Label) string { s, _ := label.Text(a); return s }
	for _, kind := range []string{"source", "receiver", "person", "raise"} {
		for _, n := range *lists(&p)[kind] {
			fmt.Fprintf(&b, "%s %s %s\n", kind, n.Name, at(n.Label))
		}
	}
	for _, r := range p.Routes {
		fmt.Fprintf(&b, "route %s %s %d %d %d %s\n", r.Receiver, by(r.By), r.Wait, r.Interval, r.Repeat, when(r.When))
	}
	for _, i := range p.Inhibits {
		fmt.Fprintf(&b, "inhibit %s %s %s %s\n", by(i.By), at(i.Label), when(i.From), when(i.When))
	}
	return b.String()
}

// parsesLike holds Parse of s against the model, and what was parsed against
// its text, and returns the error.
func parsesLike(t *testing.T, s string) api.Errno {
	t.Helper()
	var p api.Policy
	bad := 0
	for i, line := range strings.Split(s, "\n") {
		if !modelLine(&p, line) && bad == 0 {
			bad = i + 1
		}
	}
	want := modelCheck(p)
	if bad > 0 {
		want = api.ErrForm
	}
	if want != api.OK {
		p = api.Policy{}
	}
	got, k, e := Parse(s)
	if shape(got) != shape(p) || k != bad || e != want {
		t.Errorf("Parse(%.500q) is %v, %d, %d, not %v, %d, %d", s, got, k, e, p, bad, want)
	}
	if want != api.OK || e != api.OK {
		return want
	}
	text, e := Print(got)
	if again, k, f := Parse(text); e != api.OK || k != 0 || f != api.OK || !Same(got, again) {
		t.Errorf("Print of the policy %.500q is %.500q, %d, which is parsed as %v, %d, %d", s, text, e, again, k, f)
	}
	return want
}

const wholeText = `source prom 2+1
source cron 0
receiver pager 3+1
receiver mail 1
person ann 7+0,2
person bob 1
raise host 4
raise note 0+31
route pager team,host 10 60 600 sev="a b",host!~"x.*"
route mail - 0 1 1 -
inhibit team 1 sev="high" sev!="high"
inhibit - 2+1,2 - -
`

// TestPrint (P8.1): the text of a policy, in the order of its lists.
func TestPrint(t *testing.T) {
	if s, e := Print(whole()); s != wholeText || e != api.OK {
		t.Errorf("Print is %q, %d", s, e)
	}
	if s, e := Print(api.Policy{}); s != "" || e != api.OK {
		t.Errorf("Print of the empty policy is %q, %d", s, e)
	}
	p := api.Policy{Inhibits: []api.Inhibit{{When: []api.Matcher{{Name: "a", Op: 2, Value: `\.|# "`}}}}, People: []api.Named{{Name: "b"}, {Name: "a"}}}
	if s, e := Print(p); s != "person b 0\nperson a 0\ninhibit - 0 - a=~\"\\\\.|# \\\"\"\n" || e != api.OK {
		t.Errorf("Print is %q, %d", s, e)
	}
}

// TestParse (P8.1): the whole policy in any order of its lines, with blanks,
// comments and lines without words.
func TestParse(t *testing.T) {
	wide := strings.ReplaceAll(strings.ReplaceAll(wholeText, " ", "\t \t"), "a\t \tb", "a b")
	for _, s := range []string{
		wholeText, strings.TrimSuffix(wholeText, "\n"), wide, strings.TrimSuffix(wide, "\n"), "\n" + wholeText, wholeText + "\n\n", "\n\n" + strings.ReplaceAll(wholeText, "\n", "\n\n"),
		strings.ReplaceAll(wholeText, "\n", " \n\t"), strings.ReplaceAll(wholeText, "\n", "\t \n"), " \t " + strings.ReplaceAll(wholeText, "\n", " # a \"comment\n"),
		strings.ReplaceAll(wholeText, "\n", "\n# source a 1\n\t#\"\n"), wholeText + "#", wholeText + " \t", wholeText + "# \"",
	} {
		if p, k, e := Parse(s); shape(p) != shape(whole()) || k != 0 || e != api.OK {
			t.Errorf("Parse(%q) is %v, %d, %d", s, p, k, e)
		}
		parsesLike(t, s)
	}
	for _, s := range []string{"", " ", "\t", "\n", "\n\n\n", "#", "# a", "#\n#", " \n\t\n # x \n", "#source a", "\t# \""} {
		if p, k, e := Parse(s); !Same(p, api.Policy{}) || k != 0 || e != api.OK {
			t.Errorf("Parse(%q) is %v, %d, %d", s, p, k, e)
		}
		parsesLike(t, s)
	}
}

// TestParseInAnyOrder (P8.1): a route may be ahead of its receiver, and lists
// are in the order of their lines.
func TestParseInAnyOrder(t *testing.T) {
	lines := strings.Split(strings.TrimSuffix(wholeText, "\n"), "\n")
	r := rand.New(rand.NewSource(12))
	seen := map[string]int{}
	for range 500 {
		r.Shuffle(len(lines), func(i, j int) { lines[i], lines[j] = lines[j], lines[i] })
		s := strings.Join(lines, "\n")
		if e := parsesLike(t, s); e != api.OK {
			t.Errorf("Parse(%q) is %d", s, e)
		}
		p, _, _ := Parse(s)
		seen[shape(p)]++
	}
	if len(seen) < 50 {
		t.Error(len(seen), "policies")
	}
	p, k, e := Parse("route b - 1 2 3 -\nroute a - 1 2 3 -\nsource z 1\nreceiver b 1\nsource y 2\nreceiver a 2")
	if k != 0 || e != api.OK || p.Routes[0].Receiver != "b" || p.Receivers[1].Name != "a" || p.Sources[0].Name != "z" || p.Sources[1] != (api.Named{Name: "y", Label: api.Label{Level: 2}}) {
		t.Error(p, k, e)
	}
}

// noLines returns lines that have none of the forms.
func noLines() []string {
	return []string{
		"fly", "fly a 1", "sources a 1", "sourc a 1", "Source a 1", "SOURCE a 1", `"source" a 1`, "source# a 1", "-", "a", "source", "receiver", "person", "raise", "route", "inhibit", "routes a - 1 1 1 -", "Route a - 1 1 1 -", "people a 1", "raised a 1", "inhibits - 0 - -",
		"source a", "source 1", "source a 1 1", "source a 1 b", "source a 1 -", "source a a 1", "source 1 a", "source a b", "receiver a", "receiver a 1 2", "person a", "person a 1 2", "raise a", "raise a 1 2", "source a # 1", "raise # a 1",
		"source A 1", "source - 1", "source 1a 1", "source a-b 1", `source "a" 1`, `source "" 1`, `source a"" 1`, "source é 1", "source a,b 1", "source abcdefghijklm 1", "receiver A 1", "receiver - 1", "person A 1", "person - 1", "raise A 1", "raise - 1",
		"source a 8", "source a -", "source a -1", "source a 01", "source a 1+", "source a +1", "source a 1+32", "source a 1+1,1", "source a 1+2,1", "source a 1+01", "source a 1,2", "source a 1 +1", "source a 1+1, 2", `source a "1"`, "source a 1#", "source a 1+0,", "receiver a 8", "receiver a -", "person a 8", "person a -", "raise a 8", "raise a -",
		"route a - 1 1 1", "route a 1 1 1 -", "route - 1 1 1 -", "route a - 1 1 -", "route a - 1 1 1 - -", "route a - 1 1 1 1 -", `route a - 1 1 1 a="b" c="d"`, "route a - 1 1 1 # -", "route a", "route a -", "route a - - 1 1 1 -",
		"route A - 1 1 1 -", "route - - 1 1 1 -", `route "a" - 1 1 1 -`, "route a,b - 1 1 1 -", "route abcdefghijklm - 1 1 1 -",
		"route a A 1 1 1 -", "route a a,a 1 1 1 -", "route a a,b,a 1 1 1 -", "route a a, 1 1 1 -", "route a ,a 1 1 1 -", "route a a,,b 1 1 1 -", "route a -, 1 1 1 -", "route a a,- 1 1 1 -", "route a -- 1 1 1 -", `route a "" 1 1 1 -`, `route a "a" 1 1 1 -`, "route a a,B 1 1 1 -", "route a a, b 1 1 1 -",
		"route a - 01 1 1 -", "route a - 1 01 1 -", "route a - 1 1 01 -", "route a - -1 1 1 -", "route a - 1 -1 1 -", "route a - 1 1 -1 -", "route a - +1 1 1 -", "route a - - 1 1 -", "route a - 1 - 1 -", "route a - 1 1 - -", "route a - x 1 1 -", "route a - 1 x 1 -", "route a - 1 1 x -", "route a - 1.0 1 1 -", "route a - 0x1 1 1 -", "route a - 1_0 1 1 -", "route a - 1000000000 1 1 -", "route a - 1 1000000000 1 -", "route a - 1 1 1000000000 -", "route a - 00 1 1 -", `route a - "1" 1 1 -`, "route a - 1 1 1, -", "route a - 99999999999999999999 1 1 -",
		"route a - 1 1 1 a", "route a - 1 1 1 --", "route a - 1 1 1 a=", "route a - 1 1 1 a=b", `route a - 1 1 1 "a"`, `route a - 1 1 1 ""`, `route a - 1 1 1 ="b"`, `route a - 1 1 1 A="b"`, `route a - 1 1 1 a=="b"`, `route a - 1 1 1 a~"b"`, `route a - 1 1 1 a="b",`, `route a - 1 1 1 ,a="b"`, `route a - 1 1 1 a="b",-`, `route a - 1 1 1 -,a="b"`, `route a - 1 1 1 -a="b"`, `route a - 1 1 1 a="b";c="d"`, `route a - 1 1 1 a="b", c="d"`, `route a - 1 1 1 a = "b"`, `route a - 1 1 1 a="b"c`, `route a - 1 1 1 a="b"#`, `route a - 1 1 1 a="\b"`, `route a - 1 1 1 a=~"("`, `route a - 1 1 1 a!~"*"`, `route a - 1 1 1 a="` + strings.Repeat("v", 201) + `"`, "route a - 1 1 1 " + strings.Repeat(`a="b",`, 12) + `a="b"`,
		"inhibit", "inhibit -", "inhibit - 0", "inhibit - 0 -", "inhibit 0 - -", "inhibit - - -", "inhibit - 0 - - -", "inhibit - 0 0 - -", "inhibit - - - -", "inhibit - 8 - -", "inhibit - 1+ - -", "inhibit 0 - - -", "inhibit A 0 - -", "inhibit a,a 0 - -", "inhibit a, 0 - -", `inhibit "" 0 - -`, "inhibit - 0 a -", "inhibit - 0 - a", `inhibit - 0 "" -`, `inhibit - 0 - ""`, `inhibit - 0 a=~"(" -`, `inhibit - 0 - a=~"("`, "inhibit - 0 -- -", "inhibit - 0 - --", "inhibit - 0 " + strings.Repeat(`a="b",`, 12) + `a="b" -`, "inhibit - 0 - " + strings.Repeat(`a="b",`, 12) + `a="b"`, `inhibit - 0 a="b",- -`, "inhibit - 0 - # -",
		`"`, `a "`, `source a 1 "`, `source a 1"`, `route a - 1 1 1 a="b`, `route a - 1 1 1 a="\"`, `inhibit - 0 a="b -`, `inhibit - 0 - a="`, `source "a 1`,
		"\x00", "\x01", "source a 1\x00", "source a 1\r", "\r", "source\v a 1", "# \x01", "source a 1 # \x1f", "#\x00", "source a\x1f1", "route a - 1 1 1 a=\"\x01\"", "route a - 1 1 1 a=\"\r\"", "inhibit - 0 a=\"\x0b\" -", "inhibit - 0 - a=\"b\x1f\"", "\x7f", "\xff", "\u00a0", "source\u00a0a 1", "source a 1 \u2003",
	}
}

// TestParseOfNoLines (P8.1): a line that has no form first, in the middle and
// last, ahead of and behind another one, and in texts whose policies are not
// valid.
func TestParseOfNoLines(t *testing.T) {
	lines := strings.Split(strings.TrimSuffix(wholeText, "\n"), "\n")
	noPolicy := slices.Repeat([]string{"source a 1"}, 13)
	for _, line := range noLines() {
		for _, around := range [][]string{nil, lines, noPolicy, {"route none - 0 1 1 -"}, {"", "# x", "", " \t"}} {
			for _, at := range []int{0, len(around) / 2, len(around)} {
				s := strings.Join(slices.Insert(slices.Clone(around), at, line), "\n")
				for _, s := range []string{s, s + "\n", s + "\n" + line, s + "\nfly\n\"\n\x00"} {
					if p, k, e := Parse(s); !Same(p, api.Policy{}) || k != at+1 || e != api.ErrForm {
						t.Errorf("Parse(%.500q) is %v, %d, %d", s, p, k, e)
					}
				}
				parsesLike(t, s)
			}
		}
		for _, before := range []string{"fly", `"`, "source a", "# \x01"} {
			if _, k, e := Parse("\n" + before + "\n" + line); k != 2 || e != api.ErrForm {
				t.Errorf("behind %q, %q: %d, %d", before, line, k, e)
			}
		}
	}
}

// TestParseOfNoPolicy (P8.1): every line has its form, and the policy is not
// valid.
func TestParseOfNoPolicy(t *testing.T) {
	route := func(rest string) string { return "receiver a 1\nroute a " + rest }
	nine := strings.Join(names(9), ",")
	for _, s := range []string{
		"route a - 1 1 1 -", "source a 1\nroute a - 1 1 1 -", "route b - 1 1 1 -\nreceiver a 1", "person a 1\nraise a 1\nroute a - 1 1 1 -",
		"source a 1\nsource a 2", "source a 1\nsource b 1\nsource a 1", "receiver a 1\nreceiver a 2", "person a 1\nperson a 1", "raise a 1\nperson a 1\nraise a 1",
		route("- 1001 1 1 -"), route("- 999999999 1 1 -"), route("- 0 0 0 -"), route("- 0 0 1 -"), route("- 0 1001 1001 -"), route("- 0 1001 100000 -"), route("- 0 2 1 -"), route("- 0 1 0 -"), route("- 0 1000 999 -"), route("- 0 1 100001 -"), route("- 0 1 999999999 -"),
		route(nine + " 1 1 1 -"), "inhibit " + nine + " 0 - -", route(strings.Join(names(13), ",") + " 1 1 1 -"), "inhibit " + strings.Join(names(1000), ",") + " 0 - -",
		route("- 1 1 1 a=\"\t\""), route("- 1 1 1 a=\"b\tc\""), route("- 1 1 1 a=\"b\",c!=\"\t\""), route("- 1 1 1 a=~\"\t*\""), "inhibit - 0 a=\"\t\" -", "inhibit - 0 - a!~\"\t\"",
		strings.Repeat("source a 1\n", 12), wholeText + "source prom 2+1\n", wholeText + "route none - 1 1 1 -",
	} {
		if p, k, e := Parse(s); !Same(p, api.Policy{}) || k != 0 || e != api.ErrArg {
			t.Errorf("Parse(%.500q) is %v, %d, %d", s, p, k, e)
		}
		parsesLike(t, s)
	}
}

// TestParseOfLengths (P8.1): 12 and 13 lines of each kind, names of By and
// matchers at their edges.
func TestParseOfLengths(t *testing.T) {
	for n, want := range map[int]api.Errno{11: api.OK, 12: api.OK, 13: api.ErrLong, 14: api.ErrLong, 1000: api.ErrLong} {
		for _, kind := range []string{"source", "receiver", "person", "raise"} {
			s := kind + " " + strings.Join(names(n), " 1\n"+kind+" ") + " 1\n"
			if e := parsesLike(t, s); e != want {
				t.Errorf("%d %s: %d", n, kind, e)
			}
			if want == api.ErrLong {
				for _, s := range []string{s + "route none - 1 1 1 -", s + kind + " n00 1", "inhibit - 0 a=\"\t\" -\n" + s, "route none - 0 0 0 -\n" + s} {
					if _, k, e := Parse(s); k != 0 || e != api.ErrLong {
						t.Errorf("Parse(%.200q) is %d, %d", s, k, e)
					}
				}
			}
		}
		for _, s := range []string{"receiver a 1\n" + strings.Repeat("route a - 0 1 1 -\n", n), strings.Repeat("inhibit - 0 - -\n", n)} {
			if e := parsesLike(t, s); e != want {
				t.Errorf("%d: Parse(%.200q) is %d", n, s, e)
			}
		}
	}
	for n := 1; n <= 14; n++ {
		by, when := strings.Join(names(n), ","), strings.TrimSuffix(strings.Repeat(`a="b",`, n), ",")
		wantBy, wantWhen := api.OK, api.OK
		if n > 8 {
			wantBy = api.ErrArg
		}
		if n > 12 {
			wantWhen = api.ErrForm
		}
		for s, want := range map[string]api.Errno{"receiver a 1\nroute a " + by + " 0 1 1 -": wantBy, "inhibit " + by + " 0 - -": wantBy, "receiver a 1\nroute a - 0 1 1 " + when: wantWhen, "inhibit - 0 " + when + " -": wantWhen, "inhibit - 0 - " + when: wantWhen} {
			if e := parsesLike(t, s); e != want {
				t.Errorf("Parse(%q) is %d", s, e)
			}
		}
	}
	for _, s := range []string{"receiver a 1\nroute a - 0 1 1 -", "receiver a 1\nroute a - 1000 1000 1000 -", "receiver a 1\nroute a - 1000 1 100000 -", "receiver a 1\nroute a - 0 1000 100000 -"} {
		if e := parsesLike(t, s); e != api.OK {
			t.Errorf("Parse(%q) is %d", s, e)
		}
	}
}

// TestParseOfRandomTexts (P8.1, P8.2): lines of all kinds, with and without
// some bytes that were changed.
func TestParseOfRandomTexts(t *testing.T) {
	good := append(strings.Split(wholeText, "\n"), "receiver a 1", "receiver pager 2", "route a a,b 1 2 3 -", "route a - 1001 2 3 a=\"\"", "inhibit a 0+1 - a=\"\t\"", "# x", " ", "\tsource  b\t1 # y", "source prom 1", "route mail - 0 5 4 -", `inhibit a,b 7 a="# \"x",b!~"[a-c]+" c=""`)
	bad := noLines()
	signs := "aabz019+-,=!~\"\\#  \t\n\x01é\xff"
	r := rand.New(rand.NewSource(13))
	seen := map[api.Errno]int{}
	for range 20000 {
		lines := make([]string, r.Intn(16))
		for i := range lines {
			lines[i] = good[r.Intn(len(good))]
			if r.Intn(60) == 0 {
				lines[i] = bad[r.Intn(len(bad))]
			}
		}
		s := []byte(strings.Join(lines, "\n"))
		for range r.Intn(4) * r.Intn(2) {
			switch at := r.Intn(len(s) + 1); {
			case at == len(s) || r.Intn(3) == 0:
				s = slices.Insert(s, at, signs[r.Intn(len(signs))])
			case r.Intn(2) == 0:
				s = slices.Delete(s, at, at+1)
			default:
				s[at] = signs[r.Intn(len(signs))]
			}
		}
		seen[parsesLike(t, string(s))]++
	}
	for _, e := range []api.Errno{api.OK, api.ErrForm, api.ErrArg} {
		if seen[e] < 500 {
			t.Error(seen)
		}
	}
}

// somePolicy returns a policy that is often valid.
func somePolicy(r *rand.Rand) api.Policy {
	few := func(n int) int { return r.Intn(n) * r.Intn(2) }
	pick := func(often int, l ...int) int { return append(l, slices.Repeat(l[:1], often)...)[r.Intn(often+len(l))] }
	lab := func() api.Label {
		return api.Label{Level: pick(200, r.Intn(8), -1, 8), Cats: r.Uint32() & r.Uint32() & r.Uint32()}
	}
	name := func(i int) string {
		if r.Intn(300) == 0 {
			return []string{"", "A", "n00", "-", "abcdefghijklm"}[r.Intn(5)]
		}
		return fmt.Sprintf("n%02d", i)
	}
	by := func() []string {
		l := names(few(9))
		r.Shuffle(len(l), func(i, j int) { l[i], l[j] = l[j], l[i] })
		return l
	}
	when := func() []api.Matcher {
		var l []api.Matcher
		for i := range few(pick(20, 4, 15)) {
			m := api.Matcher{Name: name(i), Op: pick(100, r.Intn(4), -1, 4)}
			for range few(6) {
				m.Value += string(`ab ,#"\=é-` + "\t")[r.Intn(12):][:1]
			}
			if m.Op >= 2 {
				m.Value = pattern.Quote(m.Value)
			}
			l = append(l, m)
		}
		return l
	}
	var p api.Policy
	for _, l := range lists(&p) {
		for i := range few(pick(100, 5, 12, 13, 15)) {
			*l = append(*l, api.Named{Name: name(i), Label: lab()})
		}
	}
	for range few(min(len(p.Receivers), 4) + 1) {
		one := p.Receivers[r.Intn(len(p.Receivers))].Name
		interval := pick(100, 1+r.Intn(1000), 0, 1, 1000, 1001)
		p.Routes = append(p.Routes, api.Route{Receiver: one, By: by(), Wait: pick(100, r.Intn(1001), -1, 0, 1000, 1001), Interval: interval, Repeat: interval + pick(20, r.Intn(1000), 0, -1), When: when()})
	}
	for range few(4) {
		p.Inhibits = append(p.Inhibits, api.Inhibit{By: by(), Label: lab(), From: when(), When: when()})
	}
	return p
}

// TestOfRandomPolicies (P8.1, P8.2): policies are checked, printed, and parsed
// back.
func TestOfRandomPolicies(t *testing.T) {
	r := rand.New(rand.NewSource(14))
	seen := map[api.Errno]int{}
	for i := range 20000 {
		p := somePolicy(r)
		want := modelCheck(p)
		seen[want]++
		checks(t, fmt.Sprint("policy ", i), p, want)
	}
	if seen[api.OK] < 5000 || seen[api.ErrArg] < 500 || seen[api.ErrLong] < 20 {
		t.Error(seen)
	}
}

// TestLongTexts (T0): long arguments are processed to their end.
func TestLongTexts(t *testing.T) {
	const n = 1 << 17
	for s, want := range map[string]api.Errno{
		strings.Repeat("\n", n): api.OK, strings.Repeat("# a\n", n): api.OK, strings.Repeat(" ", n): api.OK,
		strings.Repeat("source a 1\n", n): api.ErrLong, strings.Repeat("route a - 1 1 1 -\n", n): api.ErrLong, strings.Repeat("inhibit - 1 - -\n", n): api.ErrLong,
		"inhibit " + strings.Join(names(n), ",") + " 1 - -": api.ErrArg,
	} {
		if _, k, e := Parse(s); k != 0 || e != want {
			t.Errorf("Parse(%.40q) is %d, %d", s, k, e)
		}
	}
	for s, want := range map[string]int{strings.Repeat("source a 1\n", n) + "fly": n + 1, strings.Repeat("\n", n) + `"`: n + 1, strings.Repeat("a ", n): 1, "source " + strings.Repeat("a", n) + " 1": 1, "\nroute a " + strings.Repeat("a,", n) + " 1 1 1 -": 2, "inhibit - 0 - " + strings.Repeat(`a="",`, n): 1, "source a 1+" + strings.Repeat("1,", n): 1, "raise a " + strings.Repeat("1", n): 1} {
		if _, k, e := Parse(s); k != want || e != api.ErrForm {
			t.Errorf("Parse(%.40q) is %d, %d", s, k, e)
		}
	}
	if e := Check(api.Policy{Sources: make([]api.Named, n), Inhibits: make([]api.Inhibit, n)}); e != api.ErrLong {
		t.Error(e)
	}
	if e := Check(api.Policy{Inhibits: []api.Inhibit{{By: make([]string, n), From: make([]api.Matcher, n)}}}); e != api.ErrArg {
		t.Error(e)
	}
}
