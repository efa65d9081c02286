package pattern

import (
	"strings"

	"lychgate/api"
)

const (
	maxBytes  = 100
	maxParens = 8
)

// Read returns the pattern p, or nil and the first error from left to right.
func Read(p string) (*Pattern, api.Errno) {
	if len(p) > maxBytes {
		return nil, api.ErrLong
	}
	r := reader{rest: p}
	e := r.alternatives(0)
	// Only a ) that closes nothing ends the alternatives ahead of the end.
	if e == api.OK && r.rest != "" {
		e = api.ErrForm
	}
	if e != api.OK {
		return nil, e
	}
	return &Pattern{text: p, steps: r.steps}, api.OK
}

// reader is what remains to be read, and the steps of what was read.
type reader struct {
	rest  string
	steps []step
}

// alternatives reads alternatives inside depth parentheses, up to a ) or the
// end.
func (r *reader) alternatives(depth int) api.Errno {
	fork := r.addStep(class{})
	var ends []int
	for {
		r.lead(fork, len(r.steps))
		if e := r.sequence(depth); e != api.OK {
			return e
		}
		ends = append(ends, r.addStep(class{}))
		if !r.take('|') {
			break
		}
	}
	for _, end := range ends {
		r.lead(end, len(r.steps))
	}
	return api.OK
}

// sequence reads one alternative inside depth parentheses.
func (r *reader) sequence(depth int) api.Errno {
	for r.rest != "" && r.rest[0] != '|' && r.rest[0] != ')' {
		if e := r.part(depth); e != api.OK {
			return e
		}
	}
	return api.OK
}

// part reads an atom inside depth parentheses, and how often it is repeated.
func (r *reader) part(depth int) api.Errno {
	from := len(r.steps)
	if e := r.atom(depth); e != api.OK {
		return e
	}
	switch {
	case r.take('*'):
		again := r.addStep(class{})
		r.lead(again, from)
		r.lead(from, again+1)
	case r.take('+'):
		again := r.addStep(class{})
		r.lead(again, from)
		r.lead(again, again+1)
	case r.take('?'):
		r.lead(from, len(r.steps))
	}
	return api.OK
}

// atom reads an atom inside depth parentheses, of which at least a byte is
// there. None of its steps leads back to the first one, so that part may let
// that one lead past the atom.
func (r *reader) atom(depth int) api.Errno {
	var set class
	ok := true
	switch c := r.rest[0]; {
	case r.take('('):
		return r.group(depth)
	case r.take('['):
		set, ok = r.class()
	case r.take('.'):
		set.invert()
	case c != '\\' && strings.IndexByte(special, c) >= 0:
		ok = false
	default:
		c, ok = r.sign()
		set.add(c, c)
	}
	if !ok {
		return api.ErrForm
	}
	r.addStep(set)
	return api.OK
}

// group reads what follows a ( inside depth others.
func (r *reader) group(depth int) api.Errno {
	if depth == maxParens {
		return api.ErrDeep
	}
	if e := r.alternatives(depth + 1); e != api.OK {
		return e
	}
	if !r.take(')') {
		return api.ErrForm
	}
	return api.OK
}

// class reads what follows a [.
func (r *reader) class() (set class, ok bool) {
	if r.take('^') {
		// Not until the end, as it is the elements that must not be missing.
		defer set.invert()
	}
	for !r.take(']') {
		first, last, fine := r.element()
		if !fine {
			return class{}, false
		}
		set.add(first, last)
	}
	return set, !set.isEmpty()
}

// element reads an element of a class, and returns the first and the last byte
// of its range.
func (r *reader) element() (first, last byte, ok bool) {
	first, ok = r.sign()
	if !ok || !r.atRange() {
		return first, first, ok
	}
	r.take('-')
	last, ok = r.sign()
	return first, last, ok && first <= last
}

// atRange reports whether a - is next that forms a range with the byte ahead
// of it.
func (r *reader) atRange() bool {
	return len(r.rest) >= 2 && r.rest[0] == '-' && r.rest[1] != ']'
}

// sign reads a byte that stands for itself, with a \ ahead of it or not.
func (r *reader) sign() (byte, bool) {
	r.take('\\')
	if r.rest == "" {
		return 0, false
	}
	c := r.rest[0]
	r.rest = r.rest[1:]
	return c, true
}

// take reads c, if it is the next byte.
func (r *reader) take(c byte) bool {
	if r.rest == "" || r.rest[0] != c {
		return false
	}
	r.rest = r.rest[1:]
	return true
}

// addStep adds a step, and returns its number.
func (r *reader) addStep(set class) int {
	r.steps = append(r.steps, step{set: set})
	return len(r.steps) - 1
}

// lead lets step k lead to step next without a byte.
func (r *reader) lead(k, next int) {
	r.steps[k].free = append(r.steps[k].free, next)
}
