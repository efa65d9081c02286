package pattern

// way is a text that leads from a step to the end, if ok.
type way struct {
	text string
	ok   bool
}

// Least returns the shortest text that fits, the first one if there are
// several, and true; or false if there is none, or if p is nil.
//
// It need not ask whether the text has at most 300 bytes: each byte of it is
// read by an atom of its own, of which a pattern has at most maxBytes.
func (p *Pattern) Least() (string, bool) {
	if p == nil {
		return "", false
	}
	least := make([]way, len(p.steps)+1)
	least[len(p.steps)] = way{ok: true}
	for k := len(p.steps) - 1; k >= 0; k-- {
		least[k] = p.steps[k].least(k, least)
	}
	return least[0].text, least[0].ok
}

// least returns the least way from s, which is step k, by those from the steps
// behind it. A way that goes back from here has been there before, and is
// shorter or the same without that detour, so it does not count.
func (s *step) least(k int, behind []way) way {
	var best way
	for _, next := range s.free {
		if next > k {
			best = lesser(best, behind[next])
		}
	}
	if !s.set.isEmpty() && behind[k+1].ok {
		text := string([]byte{s.set.first()}) + behind[k+1].text
		best = lesser(best, way{text: text, ok: true})
	}
	return best
}

// lesser returns the one of a and b with the shorter text, or, if both are as
// long, with the one that comes first.
func lesser(a, b way) way {
	if !a.ok || b.ok && comesFirst(b.text, a.text) {
		return b
	}
	return a
}

// comesFirst reports whether a is shorter than b, or as long and less.
func comesFirst(a, b string) bool {
	return len(a) < len(b) || len(a) == len(b) && a < b
}
