package json

import (
	"fmt"
	"math"
	"math/rand"
	"strings"
	"testing"
	"unicode/utf8"

	"lychgate/api"
)

func num(n int64) Value        { return Value{Kind: Number, Num: n} }
func text(s string) Value      { return Value{Kind: Text, Str: s} }
func list(kids ...Value) Value { return Value{Kind: List, Kids: kids} }

func many(n int, v Value) []Value {
	l := make([]Value, n)
	for i := range l {
		l[i] = v
	}
	return l
}

// object takes keys and values in turn.
func object(entries ...any) Value {
	v := Value{Kind: Object}
	for i := 0; i < len(entries); i += 2 {
		v.Keys = append(v.Keys, entries[i].(string))
		v.Kids = append(v.Kids, entries[i+1].(Value))
	}
	return v
}

// objectOf has n kids that are v, each with a key of its own.
func objectOf(n int, v Value) Value {
	o := Value{Kind: Object}
	for i := range n {
		o.Keys = append(o.Keys, fmt.Sprint("k", i))
		o.Kids = append(o.Kids, v)
	}
	return o
}

// nested is n lists and objects around inner, in turn.
func nested(n int, inner ...Value) Value {
	v := list(inner...)
	for i := 1; i < n; i++ {
		if i%2 == 1 {
			v = object("k", v)
		} else {
			v = list(v)
		}
	}
	return v
}

// dump shows every field of v, so that values can be compared without Same.
func dump(v Value) string {
	var b strings.Builder
	fmt.Fprintf(&b, "(%d %d %q %q", v.Kind, v.Num, v.Str, v.Keys)
	for _, kid := range v.Kids {
		b.WriteString(dump(kid))
	}
	return b.String() + ")"
}

// deepCopy shares nothing with v.
func deepCopy(v Value) Value {
	v.Keys = append([]string(nil), v.Keys...)
	kids := v.Kids
	v.Kids = nil
	for _, kid := range kids {
		v.Kids = append(v.Kids, deepCopy(kid))
	}
	return v
}

// spoil changes everything that v's slices hold.
func spoil(v Value) {
	for i := range v.Keys {
		v.Keys[i] = "spoilt"
	}
	for i := range v.Kids {
		spoil(v.Kids[i])
		v.Kids[i] = num(-77)
	}
}

// randomText is valid UTF-8 of at most 200 bytes, with the signs that need
// escapes among it.
func randomText(r *rand.Rand) string {
	signs := []rune{0, 1, 8, 9, 10, 12, 13, 31, 32, '"', '\\', '/', 'a', 'u', 127, 128, 0x7ff, 0x800, 0x2028, 0xd7ff, 0xe000, 0xfffd, 0xffff, 0x10000, 0x1d11e, 0x10ffff}
	size := r.Intn(12)
	if r.Intn(20) == 0 {
		size = r.Intn(240)
	}
	s := ""
	for range size {
		c := signs[r.Intn(len(signs))]
		if r.Intn(3) == 0 {
			c = rune(r.Intn(0x800))
		}
		if len(s)+utf8.RuneLen(c) > 200 {
			break
		}
		s += string(c)
	}
	return s
}

func randomNumber(r *rand.Rand) int64 {
	switch r.Intn(4) {
	case 0:
		return int64(r.Uint64())
	case 1:
		return []int64{math.MinInt64, math.MinInt64 + 1, -1, 0, 1, math.MaxInt64 - 1, math.MaxInt64}[r.Intn(7)]
	}
	return int64(r.Intn(2001) - 1000)
}

// randomValue is a valid value with at most depth nested lists and objects; it
// takes its values from *left.
func randomValue(r *rand.Rand, depth int, left *int) Value {
	*left--
	kind := r.Intn(7)
	if depth == 0 {
		kind = r.Intn(5)
	}
	v := Value{Kind: kind}
	switch kind {
	case Number:
		v.Num = randomNumber(r)
	case Text:
		v.Str = randomText(r)
	case List, Object:
		seen := map[string]bool{}
		for range r.Intn(7) {
			if *left == 0 {
				break
			}
			if kind == Object {
				key := randomText(r)
				if seen[key] {
					continue
				}
				seen[key] = true
				v.Keys = append(v.Keys, key)
			}
			v.Kids = append(v.Kids, randomValue(r, depth-1, left))
		}
	}
	return v
}

// validValues are at and below the limits.
func validValues() map[string]Value {
	a200 := strings.Repeat("a", 200)
	l := map[string]Value{
		"null": {}, "false": {Kind: False}, "true": {Kind: True},
		"no slices of null": {Keys: []string{}, Kids: []Value{}},
		"no slices of text": {Kind: Text, Str: "a", Keys: []string{}, Kids: []Value{}},
		"0":                 num(0), "1": num(1), "-1": num(-1), "least": num(math.MinInt64), "greatest": num(math.MaxInt64),
		"empty text": text(""), "byte 0": text("\x00"), "quotes": text(`"\/`), "200 bytes": text(a200),
		"200 bytes of two": text(strings.Repeat("é", 100)), "200 bytes of four": text(strings.Repeat("𝄞", 50)),
		"every low byte": text("\x00\x01\x02\x03\x04\x05\x06\x07\x08\x09\x0a\x0b\x0c\x0d\x0e\x0f\x10\x11\x12\x13\x14\x15\x16\x17\x18\x19\x1a\x1b\x1c\x1d\x1e\x1f\x20\x7f"),
		"code points":    text("\u0080\u07ff\u0800\ud7ff\ue000\ufeff\ufffd\uffff\U00010000\U0010ffff"),
		"empty list":     list(), "list of no memory": {Kind: List}, "list with empty keys": {Kind: List, Keys: []string{}, Kids: []Value{}},
		"empty object": object(), "object of empty slices": {Kind: Object, Keys: []string{}, Kids: []Value{}},
		"list":       list(num(1), text("a")),
		"same twice": list(num(1), num(1), list(), list()),
		"object":     object("a", num(1), "b", Value{}, "", text("")),
		"key 200":    object(a200, num(1), a200[:199]+"b", num(2)),
		"keys alike": object("a", num(1), "A", num(1), "a ", num(1), "a\x00", num(1), "\u00e9", num(1), "e\u0301", num(1)),
		"key again":  object("a", object("a", object("a", num(1))), "b", object("a", num(1))),
		"six deep":   nested(6), "six deep and a value": nested(6, num(1)), "six lists": list(list(list(list(list(list()))))),
		"six deep twice": list(nested(5), nested(5), object("a", nested(4), "b", nested(4))),
		"400 values":     list(many(399, num(1))...), "400 in an object": objectOf(399, Value{}),
		"400 in lists":  list(list(many(198, num(1))...), list(many(199, text("x"))...)),
		"400 six deep":  nested(6, many(394, Value{})...),
		"400 the lists": list(many(399, list())...),
	}
	return l
}

// invalidValues are those beyond the limits, and those with wrong fields.
func invalidValues() map[string]Value {
	a201 := strings.Repeat("a", 201)
	l := map[string]Value{
		"kind -1": {Kind: -1}, "kind 7": {Kind: 7}, "kind 8": {Kind: 8}, "least kind": {Kind: math.MinInt}, "greatest kind": {Kind: math.MaxInt}, "kind 256": {Kind: 256}, "kind 2^32": {Kind: 1 << 32},
		"kind 7 of a list": {Kind: 7, Kids: []Value{{}}}, "kind -1 of an object": {Kind: -1, Keys: []string{"a"}, Kids: []Value{{}}},
		"text 201": text(a201), "text 201 by two": text("a" + strings.Repeat("é", 100)), "text 100000": text(strings.Repeat("a", 100000)),
		"key 201": object(a201, num(1)), "key 201 last": object("a", num(1), a201, num(1)),
		"seven deep": nested(7), "seven lists": list(list(list(list(list(list(list())))))), "seven deep last": list(num(1), nested(5), nested(6)), "many deep": nested(1000),
		"seven objects": object("a", object("a", object("a", object("a", object("a", object("a", object())))))),
		"401 values":    list(many(400, num(1))...), "401 in an object": objectOf(400, Value{}), "401 in lists": list(list(many(199, num(1))...), list(many(199, text("x"))...)),
		"401 six deep": nested(6, many(395, Value{})...), "401 lists": list(many(400, list())...), "100000 values": list(many(100000, Value{})...), "100000 entries": objectOf(100000, Value{}),
		"a key too few": {Kind: Object, Kids: []Value{{}}}, "a key too many": {Kind: Object, Keys: []string{"a"}}, "two keys, one kid": {Kind: Object, Keys: []string{"a", "b"}, Kids: []Value{{}}}, "one key, two kids": {Kind: Object, Keys: []string{"a"}, Kids: []Value{{}, {}}},
		"100000 keys alone": {Kind: Object, Keys: objectOf(100000, Value{}).Keys},
		"key twice":         object("a", num(1), "a", num(1)), "key twice apart": object("a", num(1), "b", num(1), "a", num(2)), "empty key twice": object("", num(1), "", num(1)), "key twice inside": list(object("x", object("k", Value{}, "k", Value{}))),
	}
	for i, bad := range noUTF8() {
		l[fmt.Sprint("no UTF-8 ", i)] = text("a" + bad + "b")
		l[fmt.Sprint("no UTF-8 at the end ", i)] = text(bad)
		l[fmt.Sprint("key of no UTF-8 ", i)] = object("a", Value{}, bad, Value{})
	}
	named := map[int]string{Number: "n", Text: "s", List: "v", Object: "kv"}
	for kind := Null; kind <= Object; kind++ {
		if !strings.Contains(named[kind], "n") {
			l[fmt.Sprint("Num of kind ", kind)] = Value{Kind: kind, Num: 1}
			l[fmt.Sprint("negative Num of kind ", kind)] = Value{Kind: kind, Num: math.MinInt64}
		}
		if !strings.Contains(named[kind], "s") {
			l[fmt.Sprint("Str of kind ", kind)] = Value{Kind: kind, Str: "a"}
			l[fmt.Sprint("low Str of kind ", kind)] = Value{Kind: kind, Str: "\x00"}
		}
		if !strings.Contains(named[kind], "k") {
			l[fmt.Sprint("Keys of kind ", kind)] = Value{Kind: kind, Keys: []string{"a"}}
			l[fmt.Sprint("empty key of kind ", kind)] = Value{Kind: kind, Keys: []string{""}}
			l[fmt.Sprint("Keys and Kids of kind ", kind)] = Value{Kind: kind, Keys: []string{"a"}, Kids: []Value{{}}}
		}
		if !strings.Contains(named[kind], "v") {
			l[fmt.Sprint("Kids of kind ", kind)] = Value{Kind: kind, Kids: []Value{{}}}
		}
	}
	return l
}

func noUTF8() []string {
	return []string{"\xff", "\xfe", "\x80", "\xbf", "\xc0\x80", "\xc1\xbf", "\xc3", "\xe0\x80\x80", "\xe2\x82", "\xed\xa0\x80", "\xed\xbf\xbf", "\xf0\x80\x80\x80", "\xf0\x9d\x84", "\xf4\x90\x80\x80", "\xf5\x80\x80\x80", "\xed\xa0\xb4\xed\xb4\x9e"}
}

// itself is a list that contains itself n times.
func itself(n int) Value {
	kids := make([]Value, n)
	for i := range kids {
		kids[i] = Value{Kind: List, Kids: kids}
	}
	return Value{Kind: List, Kids: kids}
}

// TestKinds (P4.1): the numbers that the chapter gives.
func TestKinds(t *testing.T) {
	for want, kind := range []int{Null, False, True, Number, Text, List, Object} {
		if kind != want {
			t.Errorf("kind %d is %d", want, kind)
		}
	}
}

// TestRight (P4.1): every limit, and every field of every kind.
func TestRight(t *testing.T) {
	for name, v := range validValues() {
		if !Right(v) {
			t.Errorf("%s is not valid", name)
		}
	}
	for name, v := range invalidValues() {
		if Right(v) {
			t.Errorf("%s is valid", name)
		}
	}
}

// TestRightInside (P4.1): what is not valid is so wherever it is inside.
func TestRightInside(t *testing.T) {
	for name, v := range invalidValues() {
		for i, whole := range []Value{list(v), list(num(1), v), list(v, num(1)), object("a", v), object("a", num(1), "b", v, "c", num(1)), list(object("a", list(v)))} {
			if Right(whole) {
				t.Errorf("%s inside (%d) is valid", name, i)
			}
		}
	}
}

// TestRightEnds (T0): values that contain themselves have an end to be found.
func TestRightEnds(t *testing.T) {
	shared := num(1)
	for range 60 {
		shared = list(shared, shared)
	}
	for name, v := range map[string]Value{"itself": itself(1), "itself 3 times": itself(3), "itself 1000 times": itself(1000), "inside": list(num(1), itself(2)), "doubled": shared} {
		if Right(v) {
			t.Errorf("%s is valid", name)
		}
		if s, e := Write(v); s != "" || e != api.ErrArg {
			t.Errorf("Write of %s is %q, %d", name, s, e)
		}
		if got, ok := Get(v, "a"); ok || dump(got) != dump(Value{}) {
			t.Errorf("Get of %s is %v, %v", name, got, ok)
		}
	}
}

// TestSame (P4.1): each field counts, at every depth, and order does.
func TestSame(t *testing.T) {
	distinct := []Value{
		{}, {Kind: False}, {Kind: True}, num(0), num(1), num(-1), num(math.MinInt64), num(math.MaxInt64), text(""), text("a"), text("A"), text("a\x00"), text("\xff"), text("\xfe"),
		list(), list(Value{}), list(Value{}, Value{}), list(num(1), num(2)), list(num(2), num(1)), list(list()), list(list(), list()), list(list(list())),
		object(), object("a", num(1)), object("b", num(1)), object("a", num(2)), object("a", num(1), "b", num(2)), object("b", num(2), "a", num(1)), object("a", num(2), "b", num(1)), object("a", num(1), "a", num(1)),
		{Kind: 7}, {Kind: -1}, {Num: 1}, {Str: "a"}, {Keys: []string{"a"}}, {Keys: []string{"b"}}, {Keys: []string{""}}, {Kids: []Value{{}}}, {Kind: Object, Keys: []string{"a"}}, {Kind: Object, Kids: []Value{num(1)}},
		{Kind: List, Keys: []string{"a"}, Kids: []Value{num(1)}}, {Kind: Number, Num: 1, Str: "a"}, {Kind: Text, Num: 1, Str: "a"},
		nested(6), nested(6, num(1)), nested(6, num(2)), nested(7, num(1)), nested(50, num(1)), nested(50, num(2)),
		list(many(399, num(1))...), list(many(400, num(1))...), list(append(many(399, num(1)), num(2))...),
	}
	for i, a := range distinct {
		for j, b := range distinct {
			if got := Same(a, b); got != (i == j) {
				t.Errorf("Same(%s, %s) is %v", dump(a), dump(b), got)
			}
		}
		if !Same(a, deepCopy(a)) {
			t.Errorf("%s is not the same as its copy", dump(a))
		}
	}
}

// TestSameEmptySlices (R4): an empty slice may be nil or not.
func TestSameEmptySlices(t *testing.T) {
	for kind := Null; kind <= Object; kind++ {
		a, b := Value{Kind: kind}, Value{Kind: kind, Keys: []string{}, Kids: []Value{}}
		if !Same(a, b) || !Same(b, a) || !Same(list(num(1), a), list(num(1), b)) {
			t.Errorf("kind %d: nil and empty slices differ", kind)
		}
		if Right(a) != Right(b) {
			t.Errorf("kind %d: Right tells nil from empty slices", kind)
		}
	}
}

// TestSameDeep (T0): as deep as the document's promises reach.
func TestSameDeep(t *testing.T) {
	a, b, c := num(1), num(1), num(2)
	for range 1<<16 - 1 {
		a, b, c = list(a), list(b), list(c)
	}
	if !Same(a, b) || Same(a, c) {
		t.Error("deep values are compared wrongly")
	}
	if Right(a) {
		t.Error("deep values are valid")
	}
}

// TestGet (P4.1): what is there, what is not, and what is no object.
func TestGet(t *testing.T) {
	a200 := strings.Repeat("a", 200)
	v := object("a", num(1), "", text("empty"), "b", object("c", num(3), "a", num(4)), "n", Value{}, "l", list(num(5), object("z", num(6))), a200, num(7), "\x00é", num(8))
	for i, key := range v.Keys {
		if got, ok := Get(v, key); !ok || dump(got) != dump(v.Kids[i]) {
			t.Errorf("Get of %q is %s, %v", key, dump(got), ok)
		}
	}
	for _, key := range []string{"c", "z", "A", "a ", " a", "empty", "\x00", "é", "\xff", a200 + "a", a200[:199], "k"} {
		if got, ok := Get(v, key); ok || dump(got) != dump(Value{}) {
			t.Errorf("Get of %q is %s, %v", key, dump(got), ok)
		}
	}
	for name, v := range validValues() {
		if v.Kind == Object {
			continue
		}
		for _, key := range []string{"", "a", "k", "k0", v.Str} {
			if got, ok := Get(v, key); ok || dump(got) != dump(Value{}) {
				t.Errorf("Get of %q in %s is %s, %v", key, name, dump(got), ok)
			}
		}
	}
	o := objectOf(399, Value{})
	for i, key := range o.Keys {
		o.Kids[i] = num(int64(i))
		if got, ok := Get(o, key); !ok || got.Num != int64(i) || got.Kind != Number {
			t.Errorf("Get of %q is %s, %v", key, dump(got), ok)
		}
	}
}

// TestGetInvalid (T0): nothing is specified but that the call returns.
func TestGetInvalid(t *testing.T) {
	for _, v := range invalidValues() {
		for _, key := range []string{"", "a", "b", "k0", "\xff"} {
			Get(v, key)
		}
	}
}

// TestGetIsNew (R4): what Get returned shares no memory with its argument.
func TestGetIsNew(t *testing.T) {
	v := object("a", list(num(1), object("b", list(num(2)), "c", text("x"))), "d", object("e", list(list(num(3)))))
	before := dump(v)
	for _, key := range v.Keys {
		got, _ := Get(v, key)
		spoil(got)
		if dump(v) != before {
			t.Fatalf("changing the result of Get(%q) changed its argument to %s", key, dump(v))
		}
	}
	got, _ := Get(v, "a")
	want := dump(got)
	spoil(v)
	if dump(got) != want {
		t.Error("changing the argument changed the result of Get")
	}
}

// TestArgumentsKept (R4): no function changes a value that it is given.
func TestArgumentsKept(t *testing.T) {
	for name, v := range validValues() {
		before := dump(v)
		Right(v)
		Write(v)
		Same(v, v)
		Get(v, "a")
		if dump(v) != before {
			t.Errorf("%s was changed to %s", name, dump(v))
		}
	}
	// Room behind the slices is not written to either.
	keys, kids := []string{"a", "rest"}, []Value{num(1), num(99)}
	v := Value{Kind: Object, Keys: keys[:1], Kids: kids[:1]}
	Write(v)
	Get(v, "a")
	if keys[1] != "rest" || dump(kids[1]) != dump(num(99)) {
		t.Error("memory behind a slice was changed")
	}
}
