package match

import (
	"cmp"
	"fmt"
	"math/rand"
	"regexp"
	"slices"
	"strings"
	"testing"

	"lychgate/api"
)

// modelName is the chapter's form of a name.
var modelName = regexp.MustCompile(`\A[a-z_][a-z0-9_]{0,11}\z`)

// bytesFrom returns the text of the bytes from one to another.
func bytesFrom(from, to int) string {
	var b []byte
	for c := from; c <= to; c++ {
		b = append(b, byte(c))
	}
	return string(b)
}

// fields returns the fields of names and values that take turns.
func fields(s ...string) []api.Field {
	var l []api.Field
	for i := 0; i < len(s); i += 2 {
		l = append(l, api.Field{Name: s[i], Value: s[i+1]})
	}
	return l
}

// someFields returns n valid fields.
func someFields(n int) []api.Field {
	var l []api.Field
	for i := range n {
		l = append(l, api.Field{Name: fmt.Sprintf("f%02d", i), Value: fmt.Sprint(i)})
	}
	return l
}

// TestName (P6.1): ordinary names, the edges of what a name may be, and what is
// none.
func TestName(t *testing.T) {
	for _, s := range []string{"a", "z", "_", "host", "_1", "__", "a1", "z9", "a0", "a_b", "a_", "team_2", "abcdefghijkl", "____________", "a12345678901", "_zzzzzzzzzzz"} {
		if !Name(s) {
			t.Errorf("Name(%q) is false", s)
		}
	}
	for _, s := range []string{"", "abcdefghijklm", "_____________", "1", "0", "9", "1a", "0_", "9abcdefghijk", "A", "Z", "aB", "Host", "a-b", "-a", "a b", " ", " a", "a ", "a.b", "a=", "a\"", "a,", "a\\", "é", "aé", "a\x00", "\x00", "a\n", "\na", "\xff", "a\xe1", "ª", strings.Repeat("a", 24), strings.Repeat("a", 256+5), strings.Repeat("a", 1<<20)} {
		if Name(s) {
			t.Errorf("Name(%q) is true", s[:min(len(s), 30)])
		}
	}
}

// TestNameOfEveryByte (P6.1): which bytes a name may have, first, last and
// between.
func TestNameOfEveryByte(t *testing.T) {
	for c := range 256 {
		for _, around := range [][2]string{{"", ""}, {"", "a"}, {"a", ""}, {"a", "b"}, {"", "abcdefghijk"}, {"abcdefghijk", ""}, {"abcdef", "ghijk"}, {"abcdefghijkl", ""}, {"", "abcdefghijkl"}} {
			s := around[0] + string([]byte{byte(c)}) + around[1]
			if Name(s) != modelName.MatchString(s) {
				t.Errorf("Name(%q) is %v", s, Name(s))
			}
		}
	}
}

// TestRight (P6.1): how many fields there may be, the order of their names, and
// the length of their values.
func TestRight(t *testing.T) {
	long := strings.Repeat("v", 200)
	for _, l := range [][]api.Field{
		nil, {}, fields("a", ""), fields("a", "b"), fields("host", "db1", "sev", "high"),
		fields("a", "x", "b", "x"), fields("_", "", "a", ""), fields("_z", "", "a", ""),
		fields("a", "", "a0", "", "a1", "", "a_", "", "aa", "", "ab", "", "b", ""),
		fields("a", "", "ab", "", "abc", ""), fields("a10", "", "a2", ""), fields("a_", "", "ab", ""),
		fields("abcdefghijkl", "", "abcdefghijkm", ""),
		fields("a", long), fields("a", long, "b", long), fields("a", bytesFrom(0, 199), "b", bytesFrom(56, 255)),
		fields("a", strings.Repeat("\xff", 200)), fields("a", "\x00\n\"\\,"),
		someFields(1), someFields(7), someFields(8),
	} {
		if !Right(l) {
			t.Errorf("Right(%q) is false", l)
		}
	}
	for _, l := range [][]api.Field{
		fields("", ""), fields("", "a"), fields("A", ""), fields("1", ""), fields("abcdefghijklm", ""), fields("a b", ""), fields("a\x00", ""),
		fields("a", "", "a", ""), fields("a", "1", "a", "2"), fields("a", "", "b", "", "b", ""), fields("a", "", "a", "", "b", ""), fields("a", "", "b", "", "a", ""),
		fields("b", "", "a", ""), fields("a", "", "c", "", "b", ""), fields("b", "", "a", "", "c", ""), fields("a", "", "_", ""), fields("ab", "", "a", ""), fields("a2", "", "a10", ""), fields("ab", "", "a_", ""),
		fields("a", long+"v"), fields("a", long, "b", long+"v"), fields("a", long+"v", "b", ""), fields("a", strings.Repeat("é", 101)), fields("a", strings.Repeat("v", 256)), fields("a", strings.Repeat("v", 1<<20)),
		fields("a", "", "", ""), fields("a", "", "B", ""), fields("a", "", "b", "", "c-", ""), fields("A", "", "a", ""),
		someFields(9), someFields(10), someFields(16), someFields(80),
	} {
		if Right(l) {
			t.Errorf("Right(%q) is true", l)
		}
	}
}

// TestRightAtEachPlace (P6.1): one field that is not valid is enough, wherever
// it is.
func TestRightAtEachPlace(t *testing.T) {
	for n := 1; n <= 8; n++ {
		for i := range n {
			for name, spoil := range map[string]func(l []api.Field){
				"name":  func(l []api.Field) { l[i].Name += "-" },
				"long":  func(l []api.Field) { l[i].Name += "1234567890" },
				"value": func(l []api.Field) { l[i].Value = strings.Repeat("v", 201) },
				"order": func(l []api.Field) { l[0], l[i] = l[i], l[0] },
				"twice": func(l []api.Field) { l[max(i-1, 0)].Name = l[i].Name },
			} {
				l := someFields(n)
				spoil(l)
				want := i == 0 && (name == "order" || name == "twice")
				if Right(l) != want {
					t.Errorf("%s at %d: Right(%q) is %v", name, i, l, !want)
				}
			}
		}
	}
}

// TestValue (P6.1): the value of the first field with the name, in fields that
// are valid and in others.
func TestValue(t *testing.T) {
	for _, c := range []struct {
		l          []api.Field
		name, want string
	}{
		{nil, "a", ""}, {nil, "", ""}, {[]api.Field{}, "a", ""},
		{fields("a", "1"), "a", "1"}, {fields("a", "1"), "b", ""}, {fields("a", "1"), "", ""}, {fields("a", "1"), "A", ""}, {fields("ab", "1"), "a", ""}, {fields("a", "1"), "ab", ""},
		{fields("a", "1", "b", "2", "c", "3"), "a", "1"}, {fields("a", "1", "b", "2", "c", "3"), "b", "2"}, {fields("a", "1", "b", "2", "c", "3"), "c", "3"}, {fields("a", "1", "b", "2", "c", "3"), "d", ""},
		{fields("a", "1", "a", "2"), "a", "1"}, {fields("a", "", "a", "2"), "a", ""}, {fields("b", "1", "a", "2", "a", "3"), "a", "2"},
		{fields("", "1"), "", "1"}, {fields("B", "1"), "B", "1"}, {fields("\xff\x00", "\x00\xff"), "\xff\x00", "\x00\xff"},
		{fields("c", "1", "b", "2", "a", "3"), "a", "3"}, {fields("a", strings.Repeat("v", 300)), "a", strings.Repeat("v", 300)},
	} {
		if got := Value(c.l, c.name); got != c.want {
			t.Errorf("Value(%q, %q) is %q", c.l, c.name, got)
		}
	}
}

// TestWith (P6.1): a new field ahead of, between and behind the others, and one
// that is there.
func TestWith(t *testing.T) {
	l := fields("b", "1", "d", "2", "f", "3")
	long := strings.Repeat("v", 201)
	for _, c := range []struct {
		l           []api.Field
		name, value string
		want        []api.Field
	}{
		{nil, "a", "x", fields("a", "x")},
		{[]api.Field{}, "a", "", fields("a", "")},
		{l, "a", "x", fields("a", "x", "b", "1", "d", "2", "f", "3")},
		{l, "c", "x", fields("b", "1", "c", "x", "d", "2", "f", "3")},
		{l, "e", "x", fields("b", "1", "d", "2", "e", "x", "f", "3")},
		{l, "g", "x", fields("b", "1", "d", "2", "f", "3", "g", "x")},
		{l, "b", "x", fields("b", "x", "d", "2", "f", "3")},
		{l, "d", "x", fields("b", "1", "d", "x", "f", "3")},
		{l, "f", "x", fields("b", "1", "d", "2", "f", "x")},
		{l, "d", "2", l},
		{l, "d", "", fields("b", "1", "d", "", "f", "3")},
		{l, "b1", "x", fields("b", "1", "b1", "x", "d", "2", "f", "3")},
		{l, "_", "x", fields("_", "x", "b", "1", "d", "2", "f", "3")},
		{fields("aa", "1"), "a", "x", fields("a", "x", "aa", "1")},
		{fields("a", "1"), "a", "x", fields("a", "x")},
		{fields("a2", "1"), "a10", "x", fields("a10", "x", "a2", "1")},
		// The name and the value may be any.
		{l, "", "x", fields("", "x", "b", "1", "d", "2", "f", "3")},
		{l, "B", "x", fields("B", "x", "b", "1", "d", "2", "f", "3")},
		{l, "é", "x", fields("b", "1", "d", "2", "f", "3", "é", "x")},
		{l, "\xff", "\xff\x00", fields("b", "1", "d", "2", "f", "3", "\xff", "\xff\x00")},
		{l, "d\x00", "x", fields("b", "1", "d", "2", "d\x00", "x", "f", "3")},
		{l, "d", long, fields("b", "1", "d", long, "f", "3")},
		{l, long, "x", fields("b", "1", "d", "2", "f", "3", long, "x")},
	} {
		if got := With(c.l, c.name, c.value); !slices.Equal(got, c.want) {
			t.Errorf("With(%q, %q, %q) is %q", c.l, c.name, c.value, got)
		}
	}
}

// TestWithFull (P6.1): eight fields become nine, which are not valid any more;
// one that is there leaves them eight.
func TestWithFull(t *testing.T) {
	l := someFields(8)
	if got := With(l, "zz", "x"); !slices.Equal(got, append(someFields(8), api.Field{Name: "zz", Value: "x"})) || Right(got) {
		t.Errorf("a ninth one: %q", got)
	}
	if got := With(l, "f07", "x"); len(got) != 8 || got[7] != (api.Field{Name: "f07", Value: "x"}) || !Right(got) {
		t.Errorf("one that is there: %q", got)
	}
}

// TestWithoutAndPick (P6.1): ordinary fields, names that are not there, that
// are there twice, and that are named twice.
func TestWithoutAndPick(t *testing.T) {
	l := fields("a", "1", "b", "2", "c", "3")
	twice := fields("b", "1", "a", "2", "b", "3", "", "4")
	for _, c := range []struct {
		l    []api.Field
		name string
		want []api.Field
	}{
		{nil, "a", nil}, {nil, "", nil}, {[]api.Field{}, "a", nil},
		{l, "a", fields("b", "2", "c", "3")}, {l, "b", fields("a", "1", "c", "3")}, {l, "c", fields("a", "1", "b", "2")},
		{l, "d", l}, {l, "", l}, {l, "A", l}, {l, "ab", l}, {l, "1", l}, {fields("a", "1"), "a", nil},
		{twice, "b", fields("a", "2", "", "4")}, {twice, "a", fields("b", "1", "b", "3", "", "4")}, {twice, "", fields("b", "1", "a", "2", "b", "3")}, {twice, "c", twice},
	} {
		if got := Without(c.l, c.name); !slices.Equal(got, c.want) {
			t.Errorf("Without(%q, %q) is %q", c.l, c.name, got)
		}
	}
	for _, c := range []struct {
		l     []api.Field
		names []string
		want  []api.Field
	}{
		{nil, nil, nil}, {nil, []string{"a"}, nil}, {l, nil, nil}, {l, []string{}, nil},
		{l, []string{"a"}, fields("a", "1")}, {l, []string{"b"}, fields("b", "2")}, {l, []string{"c"}, fields("c", "3")},
		{l, []string{"c", "a"}, fields("a", "1", "c", "3")}, {l, []string{"c", "b", "a"}, l},
		{l, []string{"d"}, nil}, {l, []string{"", "A", "ab", "1"}, nil}, {l, []string{"d", "b", "_"}, fields("b", "2")},
		{l, []string{"b", "b"}, fields("b", "2")}, {l, []string{"c", "a", "c", "a", "c"}, fields("a", "1", "c", "3")},
		{twice, []string{"b"}, fields("b", "1", "b", "3")}, {twice, []string{"", "a"}, fields("a", "2", "", "4")}, {twice, []string{"a", "b", ""}, twice},
	} {
		if got := Pick(c.l, c.names); !slices.Equal(got, c.want) {
			t.Errorf("Pick(%q, %q) is %q", c.l, c.names, got)
		}
	}
}

// randomFields returns up to eight valid fields, mostly of few names.
func randomFields(r *rand.Rand) []api.Field {
	byName := map[string]string{}
	for range r.Intn(9) {
		byName[string("_abc"[r.Intn(4)])+strings.Repeat("1", r.Intn(3))] = strings.Repeat("x", r.Intn(3))
	}
	var l []api.Field
	for name, value := range byName {
		l = append(l, api.Field{Name: name, Value: value})
	}
	slices.SortFunc(l, func(a, b api.Field) int { return cmp.Compare(a.Name, b.Name) })
	return l
}

// TestFieldsTogether (P6.1): what was set is found, and nothing else changes;
// what was set is what was picked, and what was taken away the rest.
func TestFieldsTogether(t *testing.T) {
	r := rand.New(rand.NewSource(1))
	for range 20000 {
		l := randomFields(r)
		name := string("_abcd"[r.Intn(5)]) + strings.Repeat("1", r.Intn(3))
		if !Right(l) {
			t.Fatalf("Right(%q) is false", l)
		}
		w := With(l, name, "new")
		if Value(w, name) != "new" || !Right(w[:min(len(w), 8)]) || !slices.IsSortedFunc(w, func(a, b api.Field) int { return cmp.Compare(a.Name, b.Name) }) {
			t.Fatalf("With(%q, %q) is %q", l, name, w)
		}
		rest := Without(l, name)
		if !slices.Equal(Without(w, name), rest) || Value(rest, name) != "" || len(rest) != len(w)-1 {
			t.Fatalf("Without(%q, %q) is %q", l, name, rest)
		}
		if !slices.Equal(Pick(w, []string{"x", name, name}), fields(name, "new")) || len(Pick(rest, []string{name})) != 0 {
			t.Fatalf("Pick(%q, %q)", w, name)
		}
		for _, f := range l {
			if f.Name != name && Value(w, f.Name) != f.Value {
				t.Fatalf("With(%q, %q) is %q", l, name, w)
			}
		}
	}
}

// TestFieldsMemory (R4): arguments stay as they are, also what is behind them
// in their memory, and results are new.
func TestFieldsMemory(t *testing.T) {
	for _, name := range []string{"a", "b", "c", "d", "e", "zz"} {
		whole := fields("b", "1", "d", "2", "z", "3", "z", "4")
		before := slices.Clone(whole)
		names := []string{"b", name, "d"}
		l := whole[:2]
		results := [][]api.Field{With(l, name, "x"), Without(l, name), Pick(l, names), With(l[:0], name, "x"), Without(l, "none"), Pick(l, []string{"b", "d"}), With(l, "b", "1")}
		for _, got := range results {
			kept := slices.Clone(got)
			for i := range whole {
				whole[i] = api.Field{Name: "changed"}
			}
			if !slices.Equal(got, kept) {
				t.Errorf("%q: a result changes with its argument", name)
			}
			copy(whole, before)
			for i := range got {
				got[i] = api.Field{Name: "changed"}
			}
			_ = append(got, api.Field{Name: "more"})
			if !slices.Equal(whole, before) {
				t.Fatalf("%q: an argument changes with its result, or was changed: %q", name, whole)
			}
		}
		if !slices.Equal(names, []string{"b", name, "d"}) {
			t.Errorf("the names were changed: %q", names)
		}
	}
}

// TestFieldsOfAnyKind (T0): the functions end, whatever fields they are given.
func TestFieldsOfAnyKind(t *testing.T) {
	r := rand.New(rand.NewSource(2))
	for range 5000 {
		var l []api.Field
		for range r.Intn(12) {
			l = append(l, api.Field{Name: []string{"", "a", "b", "A", "\xff", "a b"}[r.Intn(6)], Value: "v"})
		}
		name := []string{"", "a", "c", "\xff", "\x00"}[r.Intn(5)]
		With(l, name, "x")
		rest, picked := Without(l, name), Pick(l, []string{name})
		if len(rest)+len(picked) != len(l) || slices.ContainsFunc(rest, func(f api.Field) bool { return f.Name == name }) || slices.ContainsFunc(picked, func(f api.Field) bool { return f.Name != name }) {
			t.Fatalf("%q, %q: %q and %q", l, name, rest, picked)
		}
	}
	if l := someFields(3000); Right(l) || len(With(l, "x", "")) != 3001 || len(Without(l, "f10")) != 2999 || len(Pick(l, []string{"f10"})) != 1 {
		t.Error("many fields")
	}
}
