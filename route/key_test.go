package route

import (
	"fmt"
	"math"
	"slices"
	"strings"
	"testing"

	"lychgate/api"
)

// TestKey (P11.1): keys that another program has worked out.
func TestKey(t *testing.T) {
	for _, c := range []struct {
		receiver string
		route    int
		by       []api.Field
		want     uint64
	}{
		{"", 0, nil, 0x96a296d224f285c6},
		{"pager", 0, nil, 0x598cf7ffc3b0bd4d},
		{"pager", 0, []api.Field{}, 0x598cf7ffc3b0bd4d},
		{"mail", 0, nil, 0x322a8e1b78e4aac6},
		{"pager", -1, nil, 0x85adc55d786e0528},
		{"pager", 1, nil, 0x5d6ed091ba50a272},
		{"pager", 255, nil, 0x85adc55d786e0528},
		{"pager", 256, nil, 0x598cf7ffc3b0bd4d},
		{"pager", 257, nil, 0x5d6ed091ba50a272},
		{"pager", math.MinInt, nil, 0x598cf7ffc3b0bd4d},
		{"pager", math.MaxInt, nil, 0x85adc55d786e0528},
		{"pager", 0, fields("team", "a"), 0xca00c7f2f0e1c130},
		{"pager", 1, fields("team", "a"), 0x4c9f94dcad760863},
		{"pager", 0, fields("host", "h", "team", "a"), 0xa569ef8111f33318},
		{"pager", 0, fields("team", "a", "host", "h"), 0xb7a05d9359541136},
		{"", 0, fields("", ""), 0x2de71f3ab15a65ed},
		{"pager", 0, fields("", "", "", ""), 0xe189bf64790b33a0},
		{"pager", 0, fields("a", "x\x00b=y"), 0xea52514c44f7087f},
		{"pager", 0, fields("a", "x", "b", "y"), 0xea52514c44f7087f},
		{"pager", 0, fields("a=b", "c"), 0x871a7f6ffcec606f},
		{"pager", 0, fields("a", "b=c"), 0x871a7f6ffcec606f},
		{"pager", 0, fields("\x00", "="), 0x808bd40e3a904087},
		{"pager\x00\x00", 0, nil, 0xbfba63c2a5bc8f6d},
		{"p\xff", 11, fields("h", "\xff\xfe"), 0xd5a9bb057ed2b3cc},
	} {
		if got := Key(c.receiver, c.route, c.by); got != c.want {
			t.Errorf("Key of %q, %d, %q is %x, not %x", c.receiver, c.route, c.by, got, c.want)
		}
		if got := modelKey(c.receiver, c.route, c.by); got != c.want {
			t.Errorf("the model's key of %q, %d, %q is %x, not %x", c.receiver, c.route, c.by, got, c.want)
		}
	}
}

// TestKeyOfIndices (P11.1): the index counts modulo 256, also below 0.
func TestKeyOfIndices(t *testing.T) {
	by := fields("host", "h", "team", "t")
	seen := map[uint64]int{}
	for i := range 256 {
		key := Key("pager", i, by)
		if other, there := seen[key]; there {
			t.Errorf("the indices %d and %d have the same key", other, i)
		}
		seen[key] = i
		for _, k := range []int{i - 256, i + 256, i - 512, i + 65536, i - 1<<32, i + 1<<32, math.MinInt + i, math.MaxInt - 255 + i} {
			if got := Key("pager", k, by); got != key {
				t.Errorf("Key of the index %d is %x, not %x as that of %d", k, got, key, i)
			}
		}
	}
}

// TestKeyOfMany (P11.1): keys of long names, many fields and every byte.
func TestKeyOfMany(t *testing.T) {
	long := strings.Repeat("v", 1<<16)
	checks := func(receiver string, route int, by []api.Field) {
		t.Helper()
		before := fmt.Sprint(by)
		if got, want := Key(receiver, route, by), modelKey(receiver, route, by); got != want {
			t.Errorf("Key of %.100q, %d, %.100q is %x, not %x", receiver, route, by, got, want)
		}
		if fmt.Sprint(by) != before {
			t.Errorf("Key of %.100q has changed its fields", by)
		}
	}
	checks(long, 3, nil)
	checks("", 3, fields(long, long))
	checks("pager", 3, slices.Repeat(fields("a", "1", "b", "2"), 500))
	for b := range 256 {
		one := string([]byte{byte(b)})
		checks(one, b, nil)
		checks("pager", b, fields("host", one))
		checks("pager", b, fields(one, "h", one, one))
	}
	for n := range 150 {
		checks(strings.Repeat("r", n), n, nil)
		checks("pager", n, fields("host", strings.Repeat("h", n)))
	}
}

// TestSame (P11.1): groups that are equal, and ones that differ in one field.
func TestSame(t *testing.T) {
	g := func() Group {
		return Group{Route: 3, By: fields("host", "h", "team", "t"), Key: 9, Ids: []uint64{4, 7}}
	}
	same := func(a, b Group, want bool) {
		t.Helper()
		if Same(a, b) != want || Same(b, a) != want {
			t.Errorf("Same of %v and %v is not %v", a, b, want)
		}
	}
	same(g(), g(), true)
	same(Group{}, Group{}, true)
	same(g(), Group{}, false)
	for _, change := range []func(g *Group){
		func(g *Group) { g.Route = 4 },
		func(g *Group) { g.Route = 3 + 256 },
		func(g *Group) { g.Route = -3 },
		func(g *Group) { g.Key = 8 },
		func(g *Group) { g.Key = 9 + 1<<32 },
		func(g *Group) { g.By[0].Name = "hos" },
		func(g *Group) { g.By[1].Name = "zone" },
		func(g *Group) { g.By[0].Value = "" },
		func(g *Group) { g.By[1].Value = "T" },
		func(g *Group) { g.By = g.By[:1] },
		func(g *Group) { g.By = g.By[1:] },
		func(g *Group) { g.By = nil },
		func(g *Group) { g.By = append(g.By, api.Field{}) },
		func(g *Group) { slices.Reverse(g.By) },
		func(g *Group) { g.Ids[0] = 5 },
		func(g *Group) { g.Ids[1] = 7 + 1<<32 },
		func(g *Group) { g.Ids = g.Ids[:1] },
		func(g *Group) { g.Ids = g.Ids[1:] },
		func(g *Group) { g.Ids = nil },
		func(g *Group) { g.Ids = append(g.Ids, 0) },
		func(g *Group) { slices.Reverse(g.Ids) },
	} {
		other := g()
		change(&other)
		same(g(), other, false)
		same(other, other, true)
	}
}

// TestSameOfEmpty (P11.1): an empty list is equal to a nil one.
func TestSameOfEmpty(t *testing.T) {
	for _, a := range []Group{{Route: 1, Key: 2}, {Route: 1, Key: 2, By: []api.Field{}}, {Route: 1, Key: 2, Ids: []uint64{}}, {Route: 1, Key: 2, By: []api.Field{}, Ids: []uint64{}}} {
		for _, b := range []Group{{Route: 1, Key: 2}, {Route: 1, Key: 2, By: []api.Field{}, Ids: []uint64{}}} {
			if !Same(a, b) || !Same(b, a) {
				t.Errorf("Same of %#v and %#v is false", a, b)
			}
		}
		for _, b := range []Group{{Route: 1, Key: 2, By: fields("", "")}, {Route: 1, Key: 2, Ids: []uint64{0}}} {
			if Same(a, b) || Same(b, a) {
				t.Errorf("Same of %#v and %#v is true", a, b)
			}
		}
	}
}
