package path_test

import (
	"math/rand"
	"reflect"
	"slices"
	"strconv"
	"strings"
	"testing"

	"cascade/api"
	"cascade/path"
	"cascade/tree"
)

// sample is {"a": [1, {"b": 2, "": [[]], "n": null}], "o": {}, "l": [], "s": "text", "0": 7}.
func sample() api.Value {
	inner := object(pair("b", number(2)), pair("", list(list())), pair("n", null))
	return object(pair("a", list(number(1), inner)), pair("o", object()), pair("l", list()), pair("s", str("text")), pair("0", number(7)))
}

// nowhere are right paths that lead nowhere in the sample.
func nowhere() [][]api.Step {
	return [][]api.Step{
		steps(key("z")), steps(key("A")), steps(key("aa")), steps(key("")), steps(key("b")),
		steps(place(0)), steps(place(1)), steps(place(api.MaxNumber)),
		steps(key("a"), place(2)), steps(key("a"), place(3)), steps(key("a"), place(api.MaxNumber)), steps(key("a"), key("0")), steps(key("a"), key("")),
		steps(key("a"), place(0), place(0)), steps(key("a"), place(0), key("b")), steps(key("a"), place(1), place(0)), steps(key("a"), place(1), key("a")),
		steps(key("a"), place(1), key("n"), key("")), steps(key("a"), place(1), key("n"), place(0)), steps(key("a"), place(1), key(""), place(0), place(0)),
		steps(key("o"), key("")), steps(key("o"), place(0)), steps(key("l"), place(0)), steps(key("l"), key("")),
		steps(key("s"), key("")), steps(key("s"), place(0)), steps(key("0"), place(0)), steps(place(0), key("a")), steps(key("z"), key("a")),
		many(30), append(steps(key("a"), place(1)), many(28)...),
	}
}

// P6.2: Find, by hand.
func TestFind(t *testing.T) {
	v := sample()
	for _, c := range []struct {
		v    api.Value
		p    []api.Step
		want api.Value
	}{
		{v, nil, v},
		{v, steps(), v},
		{null, nil, null},
		{number(5), nil, number(5)},
		{v, steps(key("a")), v.F[0].V},
		{v, steps(key("a"), place(0)), number(1)},
		{v, steps(key("a"), place(1)), v.F[0].V.L[1]},
		{v, steps(key("a"), place(1), key("b")), number(2)},
		{v, steps(key("a"), place(1), key("")), list(list())},
		{v, steps(key("a"), place(1), key(""), place(0)), list()},
		{v, steps(key("a"), place(1), key("n")), null},
		{v, steps(key("o")), object()},
		{v, steps(key("l")), list()},
		{v, steps(key("s")), str("text")},
		{v, steps(key("0")), number(7)},
		{list(list(null, str("x"))), steps(place(0), place(1)), str("x")},
		{object(pair("\u20ac", boolean(1))), steps(key("\u20ac")), boolean(1)},
	} {
		if x, ok := path.Find(c.v, c.p); !same(x, c.want) || !ok {
			t.Errorf("Find(%v, %v) = %v, %v", c.v, c.p, x, ok)
		}
	}
	for _, p := range nowhere() {
		if x, ok := path.Find(v, p); !zero(x) || ok {
			t.Errorf("Find(%v, %v) = %v, %v", v, p, x, ok)
		}
	}
}

// P6.2: Find, where the value or the path isn't right, though there would be something.
func TestFindWrong(t *testing.T) {
	for _, w := range wrongValues() {
		for _, p := range [][]api.Step{nil, steps(key("a")), steps(place(0)), steps(key("b"))} {
			if x, ok := path.Find(w, p); !zero(x) || ok {
				t.Errorf("Find(%v, %v) = %v, %v", w, p, x, ok)
			}
		}
		for _, v := range []api.Value{list(null, w), object(pair("a", number(1)), pair("b", w))} {
			for _, p := range [][]api.Step{nil, steps(key("a")), steps(place(0)), steps(key("b")), steps(place(1))} {
				if x, ok := path.Find(v, p); !zero(x) || ok {
					t.Errorf("Find(%v, %v) = %v, %v", v, p, x, ok)
				}
			}
		}
	}
	v := object(pair("a", list(number(1), number(2))), pair("", null))
	for _, s := range []api.Step{{Key: "a", At: 1}, {Key: "a", Index: true}, {At: 1}, {At: -1}, {Key: "\xff"}, place(-1), {Key: "a", At: 1, Index: true}} {
		for _, p := range [][]api.Step{steps(s), steps(key("a"), s), append(steps(key("a"), place(0)), s)} {
			if x, ok := path.Find(v, p); !zero(x) || ok {
				t.Errorf("Find(%v, %v) = %v, %v", v, p, x, ok)
			}
		}
	}
}

// P6.3: Put, by hand.
func TestPut(t *testing.T) {
	x := object(pair("x", list(null)))
	v := object(pair("a", list(number(1), object(pair("b", number(2)), pair("c", null)))), pair("d", str("e")))
	for _, c := range []struct {
		p    []api.Step
		want api.Value
	}{
		{nil, x},
		{steps(key("a")), object(pair("a", x), pair("d", str("e")))},
		{steps(key("d")), object(v.F[0], pair("d", x))},
		{steps(key("a"), place(0)), object(pair("a", list(x, v.F[0].V.L[1])), pair("d", str("e")))},
		{steps(key("a"), place(1)), object(pair("a", list(number(1), x)), pair("d", str("e")))},
		{steps(key("a"), place(1), key("b")), object(pair("a", list(number(1), object(pair("b", x), pair("c", null)))), pair("d", str("e")))},
		{steps(key("a"), place(1), key("c")), object(pair("a", list(number(1), object(pair("b", number(2)), pair("c", x)))), pair("d", str("e")))},
	} {
		if w, e := path.Put(v, c.p, x); !same(w, c.want) || e != api.OK {
			t.Errorf("Put(%v, %v, %v) = %v, %d", v, c.p, x, w, e)
		}
	}
}

// P6.3: Merge, by hand: at the top and within, with orders that name some, all and others.
func TestMerge(t *testing.T) {
	b, c, d, e := pair("b", number(2)), pair("c", null), pair("d", object(pair("z", null), pair("b", null))), pair("", list())
	for _, k := range []struct {
		own, in []api.Pair
		order   []string
		want    []api.Pair
	}{
		{nil, nil, nil, nil},
		{nil, nil, []string{"b", "c"}, nil},
		{[]api.Pair{c, b}, nil, nil, []api.Pair{c, b}},
		{[]api.Pair{c, b}, nil, []string{"b"}, []api.Pair{b, c}},
		{nil, []api.Pair{c, b}, nil, []api.Pair{c, b}},
		{nil, []api.Pair{c, b}, []string{"b", "c"}, []api.Pair{b, c}},
		{[]api.Pair{c, b}, []api.Pair{e, d}, nil, []api.Pair{c, b, e, d}},
		{[]api.Pair{c, b}, []api.Pair{e, d}, []string{}, []api.Pair{c, b, e, d}},
		{[]api.Pair{c, b}, []api.Pair{e, d}, []string{"x", "y"}, []api.Pair{c, b, e, d}},
		{[]api.Pair{c, b}, []api.Pair{e, d}, []string{"d"}, []api.Pair{d, c, b, e}},
		{[]api.Pair{c, b}, []api.Pair{e, d}, []string{"d", "x", "c"}, []api.Pair{d, c, b, e}},
		{[]api.Pair{c, b}, []api.Pair{e, d}, []string{"", "b", "c", "d"}, []api.Pair{e, b, c, d}},
		{[]api.Pair{c, b}, []api.Pair{e, d}, []string{"z", "\xff", "b"}, []api.Pair{b, c, e, d}},
	} {
		own, in, want := object(k.own...), object(k.in...), object(k.want...)
		if w, err := path.Merge(own, nil, in, k.order); !same(w, want) || err != api.OK {
			t.Errorf("Merge(%v, , %v, %q) = %v, %d", own, in, k.order, w, err)
		}
		v := object(pair("z", number(1)), pair("c", list(own, own)), pair("b", own))
		wanted := object(pair("z", number(1)), pair("c", list(own, want)), pair("b", own))
		if w, err := path.Merge(v, steps(key("c"), place(1)), in, k.order); !same(w, wanted) || err != api.OK {
			t.Errorf("Merge(%v, c 1, %v, %q) = %v, %d", v, in, k.order, w, err)
		}
	}
}

// P6.3: Add, by hand.
func TestAdd(t *testing.T) {
	x, y := object(pair("x", null)), list(number(1))
	v := object(pair("a", list(number(1), list())), pair("b", list()))
	for _, c := range []struct {
		v    api.Value
		p    []api.Step
		l    []api.Value
		want api.Value
	}{
		{list(), nil, nil, list()},
		{list(), nil, []api.Value{null}, list(null)},
		{list(x), nil, []api.Value{y, x, y}, list(x, y, x, y)},
		{v, steps(key("b")), []api.Value{x, y}, object(v.F[0], pair("b", list(x, y)))},
		{v, steps(key("b")), nil, v},
		{v, steps(key("a")), []api.Value{x, y}, object(pair("a", list(number(1), list(), x, y)), pair("b", list()))},
		{v, steps(key("a"), place(1)), []api.Value{y}, object(pair("a", list(number(1), list(y))), pair("b", list()))},
		{v, steps(key("a"), place(1)), []api.Value{}, v},
	} {
		if w, e := path.Add(c.v, c.p, c.l); !same(w, c.want) || e != api.OK {
			t.Errorf("Add(%v, %v, %v) = %v, %d", c.v, c.p, c.l, w, e)
		}
	}
}

// wantErrors fails, if one of Put, Merge and Add, of something small, doesn't tell these.
func wantErrors(t *testing.T, v api.Value, p []api.Step, put, merge, add api.Errno) {
	t.Helper()
	if w, e := path.Put(v, p, number(1)); e != put || e != api.OK && !zero(w) {
		t.Errorf("Put(%v, %v, 1) = %v, %d", v, p, w, e)
	}
	if w, e := path.Merge(v, p, object(pair("new", null)), []string{"new"}); e != merge || e != api.OK && !zero(w) {
		t.Errorf("Merge(%v, %v, {new}) = %v, %d", v, p, w, e)
	}
	if w, e := path.Add(v, p, []api.Value{null}); e != add || e != api.OK && !zero(w) {
		t.Errorf("Add(%v, %v, null) = %v, %d", v, p, w, e)
	}
}

// P6.3: ErrName, where a path leads nowhere; ErrType, where it leads to something else.
func TestNowhere(t *testing.T) {
	v := sample()
	for _, p := range nowhere() {
		wantErrors(t, v, p, api.ErrName, api.ErrName, api.ErrName)
	}
	for _, n := range nodes(v) {
		merge, add := api.ErrType, api.ErrType
		switch down(v, n.at).Kind {
		case api.Object:
			merge = api.OK
		case api.List:
			add = api.OK
		}
		wantErrors(t, v, n.at, api.OK, merge, add)
	}
	for _, v := range []api.Value{null, boolean(1), number(1), str("a")} {
		wantErrors(t, v, nil, api.OK, api.ErrType, api.ErrType)
		wantErrors(t, v, steps(key("a")), api.ErrName, api.ErrName, api.ErrName)
		wantErrors(t, v, steps(place(0)), api.ErrName, api.ErrName, api.ErrName)
	}
	wantErrors(t, object(), nil, api.OK, api.OK, api.ErrType)
	wantErrors(t, list(), nil, api.OK, api.ErrType, api.OK)
}

// P6.3: ErrArg, where the value, the path, or what is to come in isn't right.
func TestArgs(t *testing.T) {
	v := object(pair("o", object()), pair("l", list(null)), pair("a", null))
	for _, w := range wrongValues() {
		for _, v := range []api.Value{w, object(pair("o", object()), pair("l", list()), pair("w", w)), list(object(), list(), w)} {
			for _, p := range [][]api.Step{nil, steps(key("o")), steps(key("l")), steps(key("w")), steps(place(0)), steps(place(1)), steps(place(2)), steps(key("z"))} {
				wantErrors(t, v, p, api.ErrArg, api.ErrArg, api.ErrArg)
			}
		}
		for _, p := range [][]api.Step{nil, steps(key("o")), steps(key("l")), steps(key("a")), steps(key("l"), place(0)), steps(key("z"))} {
			if got, e := path.Put(v, p, w); !zero(got) || e != api.ErrArg {
				t.Errorf("Put(%v, %v, %v) = %v, %d", v, p, w, got, e)
			}
			for _, o := range []api.Value{w, object(pair("x", null), pair("y", w))} {
				if got, e := path.Merge(v, p, o, nil); !zero(got) || e != api.ErrArg {
					t.Errorf("Merge(%v, %v, %v) = %v, %d", v, p, o, got, e)
				}
			}
			for _, l := range [][]api.Value{{w}, {null, w}, {w, null}, {null, list(w), null}} {
				if got, e := path.Add(v, p, l); !zero(got) || e != api.ErrArg {
					t.Errorf("Add(%v, %v, %v) = %v, %d", v, p, l, got, e)
				}
			}
		}
	}
	for _, p := range wrongPaths() {
		wantErrors(t, v, p, api.ErrArg, api.ErrArg, api.ErrArg)
		wantErrors(t, list(v, v), p, api.ErrArg, api.ErrArg, api.ErrArg)
		wantErrors(t, v, append(steps(key("z")), p...), api.ErrArg, api.ErrArg, api.ErrArg)
	}
	for _, o := range []api.Value{null, boolean(1), number(1), str("a"), list(), list(object())} {
		for _, p := range [][]api.Step{nil, steps(key("o")), steps(key("l")), steps(key("z"))} {
			if got, e := path.Merge(v, p, o, nil); !zero(got) || e != api.ErrArg {
				t.Errorf("Merge(%v, %v, %v) = %v, %d", v, p, o, got, e)
			}
		}
	}
}

// P6.3: ErrTwice, for keys that are there already, and for keys that stand twice in the order.
func TestTwice(t *testing.T) {
	v := object(pair("a", null), pair("o", object(pair("b", null), pair("", null), pair("c", object(pair("x", null))))))
	at := steps(key("o"))
	for _, c := range []struct {
		keys, order string
		want        api.Errno
	}{
		{"b", "", api.ErrTwice},
		{"|x", "", api.ErrTwice},
		{"x|y|c", "", api.ErrTwice},
		{"c|x", "x", api.ErrTwice},
		{"a", "", api.OK},
		{"x", "", api.OK},
		{"o|B|bb", "", api.OK},
		{"x", "x|x", api.ErrTwice},
		{"x", "b|b", api.ErrTwice},
		{"x", "q|b|x|q", api.ErrTwice},
		{"x", "|", api.ErrTwice},
		{"x", "\xff|\xff", api.ErrTwice},
		{"x", "b|x|c|q", api.OK},
	} {
		o := object()
		for _, k := range strings.Split(c.keys, "|") {
			o.F = append(o.F, pair(k, number(1)))
		}
		var order []string
		if c.order != "" {
			order = strings.Split(c.order, "|")
		}
		if w, e := path.Merge(v, at, o, order); e != c.want || e != api.OK && !zero(w) {
			t.Errorf("Merge(%v, o, %v, %q) = %v, %d", v, o, order, w, e)
		}
	}
	if w, e := path.Merge(v, at, object(), []string{"a", "a"}); !zero(w) || e != api.ErrTwice {
		t.Errorf("Merge of nothing: %v, %d", w, e)
	}
}

// P6.3, R2: of all that can be wrong at once the first one is told.
func TestErrorsInOrder(t *testing.T) {
	deep := levels(api.MaxDeep - 1)
	type wrong struct{ v, p, in, none, name, kind, twice, order, deep bool }
	first := func(c wrong) api.Errno {
		switch {
		case c.v || c.p || c.in || c.none:
			return api.ErrArg
		case c.name:
			return api.ErrName
		case c.kind:
			return api.ErrType
		case c.twice || c.order:
			return api.ErrTwice
		case c.deep:
			return api.ErrDeep
		}
		return api.OK
	}
	for bits := range 1 << 9 {
		bit := func(i int) bool { return bits>>i&1 == 1 }
		c := wrong{bit(0), bit(1), bit(2), bit(3), bit(4), bit(5), bit(6), bit(7), bit(8)}
		v := object(pair("o", object(pair("k", null))), pair("l", list(null)))
		if c.v {
			v.F = append(v.F, pair("w", boolean(2)))
		}
		object1, list1 := steps(key("o")), steps(key("l"))
		if c.kind {
			object1, list1 = list1, object1
		}
		if c.name {
			object1, list1 = steps(key("z")), steps(key("z"))
		}
		if c.p {
			object1, list1 = append(object1, place(-1)), append(list1, place(-1))
		}
		x := number(1)
		if c.deep {
			x = deep
		}
		if c.in {
			x = list(x, number(api.MaxNumber+1))
		}
		o := object(pair("n", x))
		if c.twice {
			o = object(pair("n", x), pair("k", null))
		}
		if c.none {
			o = list(x)
		}
		order := []string{"n", "k"}
		if c.order {
			order = []string{"n", "k", "n"}
		}
		if w, e := path.Merge(v, object1, o, order); e != first(c) || e != api.OK && !zero(w) {
			t.Errorf("%+v: Merge(%v, %v, %v, %q) = %v, %d", c, v, object1, o, order, w, e)
		}
		c.none, c.twice, c.order = false, false, false
		if w, e := path.Add(v, list1, []api.Value{null, list(x)}); e != first(c) || e != api.OK && !zero(w) {
			t.Errorf("%+v: Add(%v, %v, %v) = %v, %d", c, v, list1, x, w, e)
		}
		c.kind = false
		if w, e := path.Put(v, object1, list(x)); e != first(c) || e != api.OK && !zero(w) {
			t.Errorf("%+v: Put(%v, %v, %v) = %v, %d", c, v, object1, x, w, e)
		}
	}
}

// P6.3: MaxDeep: what is put under so many steps may be just so many levels deep.
func TestDeep(t *testing.T) {
	r := rand.New(rand.NewSource(4))
	for range 3000 {
		n, m, how := 1+r.Intn(api.MaxDeep), 1+r.Intn(api.MaxDeep), r.Intn(1<<api.MaxDeep)
		v, p := nested(n, how, number(7))
		x, _ := nested(m, r.Intn(1<<api.MaxDeep), []api.Value{null, list(), object()}[r.Intn(3)])
		p = p[:r.Intn(n)]
		wantDeep(t, "Put", len(p)+m, func() (api.Value, api.Errno) { return path.Put(v, p, x) })
		switch down(v, p).Kind {
		case api.Object:
			wantDeep(t, "Merge", max(n, len(p)+1+m), func() (api.Value, api.Errno) {
				o := object(pair("in", null), pair("new", x))
				if !tree.Right(o) {
					return api.Value{}, api.ErrDeep
				}
				return path.Merge(v, p, o, nil)
			})
		case api.List:
			wantDeep(t, "Add", max(n, len(p)+1+m), func() (api.Value, api.Errno) {
				return path.Add(v, p, []api.Value{null, x, null})
			})
		}
	}
}

func wantDeep(t *testing.T, what string, deep int, call func() (api.Value, api.Errno)) {
	t.Helper()
	w, e := call()
	if deep <= api.MaxDeep && (e != api.OK || !tree.Right(w)) || deep > api.MaxDeep && (e != api.ErrDeep || !zero(w)) {
		t.Fatalf("%s to %d levels: %v, %d", what, deep, w, e)
	}
}

// P6.3: MaxDeep, by hand: what is gone counts no more, and one that is right alone may be too deep in a list.
func TestDeepByHand(t *testing.T) {
	deepest, deep := levels(api.MaxDeep), levels(api.MaxDeep-1)
	if w, e := path.Put(deepest, nil, deepest); !same(w, deepest) || e != api.OK {
		t.Errorf("Put of the deepest at the top: %v, %d", w, e)
	}
	if w, e := path.Put(deepest, steps(place(0)), deep); !same(w, deepest) || e != api.OK {
		t.Errorf("Put of what was there: %v, %d", w, e)
	}
	if w, e := path.Put(deepest, steps(place(0)), deepest); !zero(w) || e != api.ErrDeep {
		t.Errorf("Put of the deepest: %v, %d", w, e)
	}
	if w, e := path.Add(list(), nil, []api.Value{deepest}); !zero(w) || e != api.ErrDeep {
		t.Errorf("Add of the deepest: %v, %d", w, e)
	}
	if w, e := path.Add(list(), nil, []api.Value{null, deep}); !same(w, list(null, deep)) || e != api.OK {
		t.Errorf("Add: %v, %d", w, e)
	}
	if w, e := path.Add(list(list()), steps(place(0)), []api.Value{deep}); !zero(w) || e != api.ErrDeep {
		t.Errorf("Add within: %v, %d", w, e)
	}
	o := object(pair("k", deep))
	if w, e := path.Merge(object(), nil, o, nil); !same(w, o) || e != api.OK {
		t.Errorf("Merge: %v, %d", w, e)
	}
	if w, e := path.Merge(list(object()), steps(place(0)), o, nil); !zero(w) || e != api.ErrDeep {
		t.Errorf("Merge within: %v, %d", w, e)
	}
}

// P6.2, P6.4: in values by chance: each value is found where it is, and nothing where there is none.
func TestFindByChance(t *testing.T) {
	r := rand.New(rand.NewSource(5))
	for range 3000 {
		v := someValue(r, 5)
		l := nodes(v)
		for _, n := range l {
			if x, ok := path.Find(v, n.at); !ok || !same(x, down(v, n.at)) {
				t.Fatalf("Find(%v, %v) = %v, %v", v, n.at, x, ok)
			}
		}
		p := slices.Concat(l[r.Intn(len(l))].at, somePath(r, 3))
		there := slices.ContainsFunc(l, func(n node) bool { return slices.Equal(n.at, p) })
		if x, ok := path.Find(v, p); ok != there || !ok && !zero(x) {
			t.Fatalf("Find(%v, %v) = %v, %v", v, p, x, ok)
		}
	}
}

// P6.3, P6.4: what is put is found, and what isn't under the path stays.
func TestPutByChance(t *testing.T) {
	r := rand.New(rand.NewSource(6))
	for range 5000 {
		v, x := someValue(r, 5), someValue(r, 5)
		l := nodes(v)
		p := l[r.Intn(len(l))].at
		w, e := path.Put(v, p, x)
		if e != api.OK || !sameNodes(nodes(w), withIn(v, p, x)) {
			t.Fatalf("Put(%v, %v, %v) = %v, %d", v, p, x, w, e)
		}
		if y, ok := path.Find(w, p); !ok || !same(x, y) {
			t.Fatalf("Find(%v, %v) = %v, %v", w, p, y, ok)
		}
		for _, n := range l {
			if path.Under(n.at, p) || path.Under(p, n.at) {
				continue
			}
			if y, ok := path.Find(w, n.at); !ok || !same(y, down(v, n.at)) {
				t.Fatalf("Find(%v, %v) = %v, %v", w, n.at, y, ok)
			}
		}
	}
}

// merged are the pairs that Merge is to make, picked one by one.
func merged(own, in []api.Pair, order []string) []api.Pair {
	var l []api.Pair
	pairs := slices.Concat(own, in)
	for _, k := range order {
		for _, f := range pairs {
			if f.Key == k {
				l = append(l, f)
			}
		}
	}
	for _, f := range pairs {
		if !slices.Contains(order, f.Key) {
			l = append(l, f)
		}
	}
	return l
}

// P6.3, P6.4: Merge and Add against what the tests make by hand, at each object and each list.
func TestMergeAddByChance(t *testing.T) {
	r := rand.New(rand.NewSource(7))
	told := map[api.Errno]int{}
	for range 20000 {
		v, o, l := someValue(r, 5), someObject(r, 4), someList(r, 4).L
		order := strings.Split(texts+"|x", "|")
		r.Shuffle(len(order), func(i, j int) { order[i], order[j] = order[j], order[i] })
		order = order[:r.Intn(len(order)+1)]
		for _, n := range nodes(v) {
			x := down(v, n.at)
			wantMerge, wantAdd := api.ErrType, api.ErrType
			switch x.Kind {
			case api.List:
				wantAdd = api.OK
			case api.Object:
				wantMerge = api.OK
				for _, f := range x.F {
					if slices.ContainsFunc(o.F, func(g api.Pair) bool { return g.Key == f.Key }) {
						wantMerge = api.ErrTwice
					}
				}
			}
			w, e := path.Merge(v, n.at, o, order)
			if e != wantMerge || e != api.OK && !zero(w) || e == api.OK && !sameNodes(nodes(w), withIn(v, n.at, object(merged(x.F, o.F, order)...))) {
				t.Fatalf("Merge(%v, %v, %v, %q) = %v, %d", v, n.at, o, order, w, e)
			}
			told[e]++
			w, e = path.Add(v, n.at, l)
			if e != wantAdd || e != api.OK && !zero(w) || e == api.OK && !sameNodes(nodes(w), withIn(v, n.at, list(slices.Concat(x.L, l)...))) {
				t.Fatalf("Add(%v, %v, %v) = %v, %d", v, n.at, l, w, e)
			}
		}
	}
	if told[api.OK] < 500 || told[api.ErrTwice] < 500 {
		t.Errorf("too few of each: %v", told)
	}
}

// roomy is an object whose lists and texts stand in one memory, with spare room behind them.
func roomy() api.Value {
	letters := strings.Repeat("abc", 2)
	l := []api.Value{number(1), str(letters[1:4]), list(number(3)), str("spare"), str("spare")}[:3]
	f := []api.Pair{pair(letters[:2], list(l...)), pair(letters[1:], str(letters)), pair("spare", null), pair("spare", null)}[:2]
	return object(pair("x", api.Value{Kind: api.List, L: l}), pair("y", api.Value{Kind: api.List, L: l}), pair("z", api.Value{Kind: api.List, L: l[:2]}),
		pair("o", api.Value{Kind: api.Object, F: f}), pair("p", list(api.Value{Kind: api.Object, F: f[1:]})), pair(letters[2:], null))
}

// R5: what is answered is new memory, and what is handed in is left as it is, its spare room too.
func TestMemory(t *testing.T) {
	v, x := roomy(), roomy()
	o := api.Value{Kind: api.Object, F: x.F[:2:2]}
	o.F = append(o.F, pair("q", x))[:2]
	l := append(make([]api.Value, 0, 6), x, x, str("spare"))[:2]
	p := append(make([]api.Step, 0, 4), key(strings.Repeat("p", 1)), place(0), key("spare"))[:2]
	order := append(make([]string, 0, 4), "y", "x", "spare")[:2]
	all := func() []any {
		return []any{copied(v), copied(x), copied(o), copied(list(l[:cap(l)]...)), slices.Clone(p[:cap(p)]), slices.Clone(order[:cap(order)])}
	}
	before := all()
	given := [][]extent{memory(v), memory(x), memory(o), memory(list(l[:cap(l)]...)), pathMemory(p[:cap(p)])}
	for _, s := range order {
		given = append(given, textMemory(s))
	}
	want := func(what string, answer api.Value, e api.Errno) {
		t.Helper()
		if e != api.OK {
			t.Errorf("%s: %d", what, e)
		}
		wantNew(t, what, memory(answer), given...)
		if !reflect.DeepEqual(all(), before) {
			t.Errorf("%s changes what was given", what)
		}
	}
	w, ok := path.Find(v, p)
	if !ok {
		t.Error("Find")
	}
	want("Find", w, api.OK)
	for _, at := range [][]api.Step{nil, p, p[:1], steps(key("x")), steps(key("y"), place(2))} {
		w, e := path.Put(v, at, x)
		want("Put", w, e)
	}
	for _, at := range [][]api.Step{p, steps(key("o"))} {
		for _, by := range [][]string{nil, order} {
			w, e := path.Merge(v, at, o, by)
			want("Merge", w, e)
		}
	}
	for _, at := range [][]api.Step{p[:1], steps(key("x")), steps(key("z")), steps(key("y"), place(2))} {
		w, e := path.Add(v, at, l)
		want("Add", w, e)
		w, e = path.Add(v, at, nil)
		want("Add of nothing", w, e)
	}
	w, e := path.Value(p)
	want("Value", w, e)
	w, _ = path.Value(p)
	given = append(given, memory(w))
	back, e := path.Of(w)
	if wantNew(t, "Of", pathMemory(back), given...); e != api.OK || !slices.Equal(back, p) {
		t.Errorf("Of(%v) = %v, %d", w, back, e)
	}
	wantNew(t, "Key", textMemory(path.Key(p[0].Key).Key), given...)
}

// R5: a list of no elements is nil or empty, and means the same.
func TestEmpty(t *testing.T) {
	for _, v := range []api.Value{object(), {Kind: api.Object, L: []api.Value{}, F: []api.Pair{}}} {
		for _, p := range [][]api.Step{nil, {}} {
			for _, order := range [][]string{nil, {}} {
				if w, e := path.Merge(v, p, v, order); !same(w, object()) || e != api.OK {
					t.Errorf("Merge(%v) = %v, %d", v, w, e)
				}
			}
			if x, ok := path.Find(v, p); !same(x, object()) || !ok {
				t.Errorf("Find(%v) = %v, %v", v, x, ok)
			}
		}
	}
	for _, v := range []api.Value{list(), {Kind: api.List, L: []api.Value{}, F: []api.Pair{}}} {
		for _, l := range [][]api.Value{nil, {}} {
			if w, e := path.Add(v, nil, l); !same(w, list()) || e != api.OK {
				t.Errorf("Add(%v) = %v, %d", v, w, e)
			}
		}
	}
}

// R1: a list, or an object, that holds itself isn't right, wherever it comes in.
func TestHoldsItself(t *testing.T) {
	l := make([]api.Value, 3)
	f := make([]api.Pair, 3)
	for i := range l {
		l[i] = api.Value{Kind: api.List, L: l}
		f[i] = pair(strconv.Itoa(i), api.Value{Kind: api.Object, F: f})
	}
	for _, v := range []api.Value{l[0], f[0].V} {
		for _, p := range [][]api.Step{nil, steps(place(0)), steps(key("0")), steps(place(0), place(1))} {
			if x, ok := path.Find(v, p); !zero(x) || ok {
				t.Error("Find in a value that holds itself")
			}
			if _, e := path.Put(v, p, null); e != api.ErrArg {
				t.Error("Put", e)
			}
			if _, e := path.Merge(v, p, object(), nil); e != api.ErrArg {
				t.Error("Merge", e)
			}
			if _, e := path.Add(v, p, nil); e != api.ErrArg {
				t.Error("Add", e)
			}
		}
		if _, e := path.Of(v); e != api.ErrArg {
			t.Error("Of", e)
		}
		if _, e := path.Put(null, nil, v); e != api.ErrArg {
			t.Error("Put of it", e)
		}
		if _, e := path.Merge(object(), nil, v, nil); e != api.ErrArg {
			t.Error("Merge of it", e)
		}
		if _, e := path.Add(list(), nil, l); e != api.ErrArg {
			t.Error("Add of it", e)
		}
	}
}

// R1: objects and lists that are long: nothing is gone through as often as it has members.
func TestWide(t *testing.T) {
	const n = 100000
	v, o, l := object(), object(), list()
	var order []string
	for i := range n {
		v.F = append(v.F, pair("v"+strconv.Itoa(i), null))
		o.F = append(o.F, pair("o"+strconv.Itoa(i), null))
		l.L = append(l.L, number(int64(i)))
		order = append(order, "o"+strconv.Itoa(n-1-i))
	}
	w, e := path.Merge(list(v), steps(place(0)), o, order)
	if e != api.OK || len(w.L[0].F) != 2*n || w.L[0].F[0].Key != order[0] || w.L[0].F[n].Key != "v0" {
		t.Error("Merge", e)
	}
	if _, e := path.Merge(w, steps(place(0)), object(o.F[n-1]), nil); e != api.ErrTwice {
		t.Error("Merge again", e)
	}
	w, e = path.Add(list(l), steps(place(0)), l.L)
	if e != api.OK || len(w.L[0].L) != 2*n {
		t.Error("Add", e)
	}
	if x, ok := path.Find(w, steps(place(0), place(2*n-1))); !ok || x.N != n-1 {
		t.Error("Find", x)
	}
}
