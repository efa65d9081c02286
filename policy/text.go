package policy

import (
	"cmp"
	"strconv"
	"strings"

	"lychgate/api"
	"lychgate/label"
	"lychgate/match"
	"lychgate/word"
)

// The first words of lines.
const (
	sourceLine   = "source"
	receiverLine = "receiver"
	personLine   = "person"
	raiseLine    = "raise"
	routeLine    = "route"
	inhibitLine  = "inhibit"
)

// noMatchers is the word of no matchers, whose text would be no word.
const noMatchers = "-"

// Print returns the text of p, or the error of Check.
func Print(p api.Policy) (string, api.Errno) {
	if e := Check(p); e != api.OK {
		return "", e
	}
	var text strings.Builder
	write := func(words ...string) {
		text.WriteString(strings.Join(words, " "))
		text.WriteByte('\n')
	}
	writeNamed(write, sourceLine, p.Sources)
	writeNamed(write, receiverLine, p.Receivers)
	writeNamed(write, personLine, p.People)
	writeNamed(write, raiseLine, p.Raises)
	for _, r := range p.Routes {
		write(routeLine, r.Receiver, word.NamesText(r.By), strconv.Itoa(r.Wait), strconv.Itoa(r.Interval), strconv.Itoa(r.Repeat), matchersText(r.When))
	}
	for _, i := range p.Inhibits {
		write(inhibitLine, word.NamesText(i.By), labelText(i.Label), matchersText(i.From), matchersText(i.When))
	}
	return text.String(), api.OK
}

func writeNamed(write func(words ...string), first string, l []api.Named) {
	for _, n := range l {
		write(first, n.Name, labelText(n.Label))
	}
}

// labelText returns the text of a label that was checked, so that there is no
// error.
func labelText(a api.Label) string {
	text, _ := label.Text(a)
	return text
}

// matchersText returns the word of matchers that were checked, so that there
// is no error.
func matchersText(m []api.Matcher) string {
	text, _ := match.Text(m)
	return cmp.Or(text, noMatchers)
}

// effect adds to p what the words behind the first one of a line say, and
// reports whether the line has its form.
type effect func(p *api.Policy, words []string) bool

// effects returns the effect of a line by its first word.
func effects() map[string]effect {
	return map[string]effect{
		sourceLine:   func(p *api.Policy, words []string) bool { return addNamed(&p.Sources, words) },
		receiverLine: func(p *api.Policy, words []string) bool { return addNamed(&p.Receivers, words) },
		personLine:   func(p *api.Policy, words []string) bool { return addNamed(&p.People, words) },
		raiseLine:    func(p *api.Policy, words []string) bool { return addNamed(&p.Raises, words) },
		routeLine:    addRoute,
		inhibitLine:  addInhibit,
	}
}

// Parse returns the policy whose text is s, or the number of the first line
// that has none of the forms and ErrForm, or 0 and the error of Check.
func Parse(s string) (api.Policy, int, api.Errno) {
	var p api.Policy
	table := effects()
	// Lines of layer 7 would tell of a quote that is not closed ahead of a
	// line above it that has no form, so each line is split by itself.
	for i, line := range strings.Split(s, "\n") {
		words, e := word.Split(line)
		if e != api.OK || !add(table, &p, words) {
			return api.Policy{}, i + 1, api.ErrForm
		}
	}
	if e := Check(p); e != api.OK {
		return api.Policy{}, 0, e
	}
	return p, 0, api.OK
}

// add adds what a line of these words says. A line without words says nothing.
func add(table map[string]effect, p *api.Policy, words []string) bool {
	if len(words) == 0 {
		return true
	}
	one, there := table[words[0]]
	return there && one(p, words[1:])
}

// addNamed adds NAME LABEL.
func addNamed(l *[]api.Named, words []string) bool {
	if len(words) != 2 || !match.Name(words[0]) {
		return false
	}
	a, e := label.Read(words[1])
	if e != api.OK {
		return false
	}
	*l = append(*l, api.Named{Name: words[0], Label: a})
	return true
}

// addRoute adds RECEIVER BY WAIT INTERVAL REPEAT WHEN.
func addRoute(p *api.Policy, words []string) bool {
	if len(words) != 6 || !match.Name(words[0]) {
		return false
	}
	by, byError := word.Names(words[1])
	wait, waitError := word.Number(words[2])
	interval, intervalError := word.Number(words[3])
	repeat, repeatError := word.Number(words[4])
	when, whenError := readMatchers(words[5])
	if cmp.Or(byError, waitError, intervalError, repeatError, whenError) != api.OK {
		return false
	}
	p.Routes = append(p.Routes, api.Route{Receiver: words[0], By: by, Wait: wait, Interval: interval, Repeat: repeat, When: when})
	return true
}

// addInhibit adds BY LABEL FROM WHEN.
func addInhibit(p *api.Policy, words []string) bool {
	if len(words) != 4 {
		return false
	}
	by, byError := word.Names(words[0])
	a, labelError := label.Read(words[1])
	from, fromError := readMatchers(words[2])
	when, whenError := readMatchers(words[3])
	if cmp.Or(byError, labelError, fromError, whenError) != api.OK {
		return false
	}
	p.Inhibits = append(p.Inhibits, api.Inhibit{By: by, Label: a, From: from, When: when})
	return true
}

// readMatchers reads the word of matchers.
func readMatchers(s string) ([]api.Matcher, api.Errno) {
	if s == noMatchers {
		return nil, api.OK
	}
	return match.Read(s)
}
