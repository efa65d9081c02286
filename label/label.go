// Package label is layer 1, security labels: see shared/doc/01-label.md.
package label

import (
	"iter"
	"strconv"
	"strings"

	"lychgate/api"
)

// Right reports whether a is valid.
func Right(a api.Label) bool {
	return a.Level >= 0 && a.Level < api.Levels
}

// Flows reports whether both labels are valid and a flows to b.
func Flows(a, b api.Label) bool {
	return Right(a) && Right(b) && a.Level <= b.Level && a.Cats&^b.Cats == 0
}

// Join returns the least label to which a and b flow, or the highest label
// if one of them is not valid.
func Join(a, b api.Label) api.Label {
	if !Right(a) || !Right(b) {
		return highest()
	}
	return api.Label{Level: max(a.Level, b.Level), Cats: a.Cats | b.Cats}
}

// Meet returns the greatest label that flows to a and to b, or the lowest
// label if one of them is not valid.
func Meet(a, b api.Label) api.Label {
	if !Right(a) || !Right(b) {
		return lowest()
	}
	return api.Label{Level: min(a.Level, b.Level), Cats: a.Cats & b.Cats}
}

// All joins all labels of l, starting with the lowest one.
func All(l []api.Label) api.Label {
	joined := lowest()
	for _, a := range l {
		joined = Join(joined, a)
	}
	return joined
}

// Text returns the text of a, or ErrArg if a is not valid.
func Text(a api.Label) (string, api.Errno) {
	if !Right(a) {
		return "", api.ErrArg
	}
	text := strconv.Itoa(a.Level)
	mark := "+"
	for team := range teamTexts(a) {
		text += mark + team
		mark = ","
	}
	return text, api.OK
}

// Read returns the valid label whose text is s, or ErrForm if there is none.
func Read(s string) (api.Label, api.Errno) {
	if s == "" || s[0] < '0' || s[0] >= '0'+api.Levels {
		return api.Label{}, api.ErrForm
	}
	cats, ok := readTeams(s[1:])
	if !ok {
		return api.Label{}, api.ErrForm
	}
	return api.Label{Level: int(s[0] - '0'), Cats: cats}, api.OK
}

// Teams returns the numbers of a's teams in ascending order. A label whose
// level is not valid has teams, too.
func Teams(a api.Label) []int {
	var teams []int
	for k := range api.Cats {
		if a.Cats&(1<<k) != 0 {
			teams = append(teams, k)
		}
	}
	return teams
}

// Above returns the indices of the labels of l to which a flows, in ascending
// order.
func Above(a api.Label, l []api.Label) []int {
	var above []int
	for i, b := range l {
		if Flows(a, b) {
			above = append(above, i)
		}
	}
	return above
}

func lowest() api.Label {
	return api.Label{}
}

func highest() api.Label {
	return api.Label{Level: api.Levels - 1, Cats: 1<<api.Cats - 1}
}

// teamTexts yields the texts of a's teams in the order of their numbers.
func teamTexts(a api.Label) iter.Seq[string] {
	return func(yield func(string) bool) {
		for _, k := range Teams(a) {
			if !yield(strconv.Itoa(k)) {
				return
			}
		}
	}
}

// readTeams reads what follows the level in a label's text. The numbers have
// to ascend, so that no two texts are read as the same label.
func readTeams(s string) (uint32, bool) {
	if s == "" {
		return 0, true
	}
	if s[0] != '+' {
		return 0, false
	}
	var cats uint32
	last := -1
	rest, more := s[1:], true
	for more {
		var word string
		word, rest, more = strings.Cut(rest, ",")
		k, ok := readTeam(word)
		if !ok || k <= last {
			return 0, false
		}
		cats |= 1 << k
		last = k
	}
	return cats, true
}

// readTeam reads the number of a team. Comparing with the number's own text
// rules out signs and leading zeros, which Atoi takes.
func readTeam(s string) (int, bool) {
	k, err := strconv.Atoi(s)
	if err != nil || k < 0 || k >= api.Cats || strconv.Itoa(k) != s {
		return 0, false
	}
	return k, true
}
