package path_test

import (
	"math"
	"math/rand"
	"slices"
	"strconv"
	"strings"
	"testing"
	"unicode/utf8"
	"unsafe"

	"cascade/api"
)

// Values and paths by hand.

var null = api.Value{}

func boolean(n int64) api.Value { return api.Value{Kind: api.Bool, N: n} }

func number(n int64) api.Value { return api.Value{Kind: api.Int, N: n} }

func str(s string) api.Value { return api.Value{Kind: api.String, S: s} }

func list(l ...api.Value) api.Value { return api.Value{Kind: api.List, L: l} }

func object(f ...api.Pair) api.Value { return api.Value{Kind: api.Object, F: f} }

func pair(key string, v api.Value) api.Pair { return api.Pair{Key: key, V: v} }

func key(s string) api.Step { return api.Step{Key: s} }

func place(n int) api.Step { return api.Step{At: n, Index: true} }

func steps(l ...api.Step) []api.Step { return l }

// many are that many steps, keys and places by turns.
func many(n int) []api.Step {
	var p []api.Step
	for i := range n {
		if i%2 == 0 {
			p = append(p, key("k"+strconv.Itoa(i)))
		} else {
			p = append(p, place(i))
		}
	}
	return p
}

// nested is a value of that many levels, lists and objects by turns of what the bits of
// how say, and the path to its inmost one.
func nested(levels int, how int, inmost api.Value) (api.Value, []api.Step) {
	v := inmost
	var p []api.Step
	for i := 1; i < levels; i++ {
		if how>>i&1 == 0 {
			v, p = list(v), append(p, place(0))
		} else {
			v, p = object(pair("k", v)), append(p, key("k"))
		}
	}
	slices.Reverse(p)
	return v, p
}

// levels is nested's value alone, of lists.
func levels(n int) api.Value {
	v, _ := nested(n, 0, null)
	return v
}

// allSteps are steps, right and wrong ones, of all few pieces.
func allSteps() []api.Step {
	var l []api.Step
	for _, k := range []string{"", "a", "b", "aa", "a\x00", "\u00e9", "\U0001f600", "\xff", "a\xc3", "\xed\xa0\x80"} {
		for _, at := range []int{0, 1, -1, 2, 10, api.MaxNumber, api.MaxNumber + 1, math.MaxInt, math.MinInt} {
			l = append(l, api.Step{Key: k, At: at}, api.Step{Key: k, At: at, Index: true})
		}
	}
	return l
}

// Values and paths by chance.

const texts = "|a|b|c|aa|ab|\u00e9|\u20ac|\U0001f600|\ufffd|\x00|a b|\"|key"

func someText(r *rand.Rand) string {
	l := strings.Split(texts, "|")
	return l[r.Intn(len(l))]
}

// someValue is a right value of at most that many levels.
func someValue(r *rand.Rand, levels int) api.Value {
	kinds := 6
	if levels == 1 {
		kinds = 4
	}
	switch r.Intn(kinds) {
	case api.Bool:
		return boolean(int64(r.Intn(2)))
	case api.Int:
		return number([]int64{0, 1, -1, 2, api.MaxNumber, -api.MaxNumber}[r.Intn(6)])
	case api.String:
		return str(someText(r))
	case api.List:
		return someList(r, levels)
	case api.Object:
		return someObject(r, levels)
	}
	return null
}

func someList(r *rand.Rand, levels int) api.Value {
	v := list()
	for range r.Intn(4) {
		v.L = append(v.L, someValue(r, levels-1))
	}
	return v
}

func someObject(r *rand.Rand, levels int) api.Value {
	v := object()
	for range r.Intn(5) {
		k := someText(r)
		if !slices.ContainsFunc(v.F, func(f api.Pair) bool { return f.Key == k }) {
			v.F = append(v.F, pair(k, someValue(r, levels-1)))
		}
	}
	return v
}

// someStep is a right step.
func someStep(r *rand.Rand) api.Step {
	if r.Intn(2) == 0 {
		return key(someText(r))
	}
	return place([]int{0, 1, 2, 3, 10, api.MaxSmall, api.MaxNumber}[r.Intn(7)])
}

// somePath is a right path.
func somePath(r *rand.Rand, most int) []api.Step {
	var p []api.Step
	for range r.Intn(most + 1) {
		p = append(p, someStep(r))
	}
	return p
}

// Readings that the tests go by.

// right is a second reading of which paths are right.
func right(p []api.Step) bool {
	for _, s := range p {
		k := s == api.Step{Key: s.Key} && utf8.ValidString(s.Key)
		at := s == api.Step{At: s.At, Index: true} && uint64(s.At) < 1<<53
		if !k && !at {
			return false
		}
	}
	return len(p) < 31
}

// node is a value's line in what the tests read of it: where it is, and what is told of
// it without what is in it, but for the keys and how many there are.
type node struct {
	at   []api.Step
	what string
}

// nodes are the lines of v and of all values in it, the outer one ahead.
func nodes(v api.Value) []node {
	var l []node
	var walk func(v api.Value, at []api.Step)
	walk = func(v api.Value, at []api.Step) {
		what := []string{strconv.Itoa(v.Kind), strconv.FormatInt(v.N, 10), strconv.Quote(v.S), strconv.Itoa(len(v.L))}
		for _, f := range v.F {
			what = append(what, strconv.Quote(f.Key))
		}
		l = append(l, node{at, strings.Join(what, " ")})
		for i, x := range v.L {
			walk(x, append(slices.Clone(at), place(i)))
		}
		for _, f := range v.F {
			walk(f.V, append(slices.Clone(at), key(f.Key)))
		}
	}
	walk(v, nil)
	return l
}

func begins(p, q []api.Step) bool {
	return len(p) <= len(q) && slices.Equal(p, q[:len(p)])
}

// withIn are the lines of v, but that those at p and under it are x's.
func withIn(v api.Value, p []api.Step, x api.Value) []node {
	var l []node
	for _, n := range nodes(v) {
		if !begins(p, n.at) {
			l = append(l, n)
		} else if len(n.at) == len(p) {
			for _, m := range nodes(x) {
				l = append(l, node{slices.Concat(p, m.at), m.what})
			}
		}
	}
	return l
}

func sameNodes(l, m []node) bool {
	return slices.EqualFunc(l, m, func(a, b node) bool { return slices.Equal(a.at, b.at) && a.what == b.what })
}

// same tells whether two values are one, by their lines.
func same(v, w api.Value) bool { return sameNodes(nodes(v), nodes(w)) }

// down answers the value to which p leads in v; p is one of its lines'.
func down(v api.Value, p []api.Step) api.Value {
	for _, s := range p {
		if s.Index {
			v = v.L[s.At]
			continue
		}
		v = v.F[slices.IndexFunc(v.F, func(f api.Pair) bool { return f.Key == s.Key })].V
	}
	return v
}

// wrongValues are values that aren't right, each for another reason.
func wrongValues() []api.Value {
	return []api.Value{
		{Kind: -1}, {Kind: api.Enum, S: "a"}, {Kind: api.Ref, S: "a"}, {N: 1}, {S: "a"},
		boolean(2), number(api.MaxNumber + 1), number(-api.MaxNumber - 1), str("\xff"),
		{Kind: api.List, N: 1}, {Kind: api.List, S: "a"}, {Kind: api.List, F: []api.Pair{{}}}, list(boolean(2)),
		{Kind: api.Object, N: 1}, {Kind: api.Object, L: []api.Value{{}}}, object(pair("\xff", null)), object(pair("a", null), pair("a", null)),
		object(pair("a", null), pair("b", boolean(2))), levels(api.MaxDeep + 1), object(pair("a", levels(api.MaxDeep))),
	}
}

// wrongPaths are paths that aren't right, each for another reason.
func wrongPaths() [][]api.Step {
	return [][]api.Step{
		many(31),
		steps(key("\xff")),
		steps(place(-1)),
		steps(place(api.MaxNumber + 1)),
		steps(api.Step{Key: "a", Index: true}),
		steps(api.Step{Key: "a", At: 1, Index: true}),
		steps(api.Step{Key: "a", At: 1}),
		steps(api.Step{At: 1}),
	}
}

// Memory.

// extent is where a list or a text stands in memory.
type extent struct{ from, end uintptr }

func extentOf(p unsafe.Pointer, size uintptr) []extent {
	if size == 0 {
		return nil
	}
	return []extent{{uintptr(p), uintptr(p) + size}}
}

func textMemory(s string) []extent {
	return extentOf(unsafe.Pointer(unsafe.StringData(s)), uintptr(len(s)))
}

// memory is where the lists and the texts of a value stand, all their spare room too.
func memory(v api.Value) []extent {
	l := textMemory(v.S)
	l = append(l, extentOf(unsafe.Pointer(unsafe.SliceData(v.L)), uintptr(cap(v.L))*unsafe.Sizeof(api.Value{}))...)
	l = append(l, extentOf(unsafe.Pointer(unsafe.SliceData(v.F)), uintptr(cap(v.F))*unsafe.Sizeof(api.Pair{}))...)
	for _, x := range v.L {
		l = append(l, memory(x)...)
	}
	for _, f := range v.F {
		l = append(l, textMemory(f.Key)...)
		l = append(l, memory(f.V)...)
	}
	return l
}

// pathMemory is memory's reading of a path.
func pathMemory(p []api.Step) []extent {
	l := extentOf(unsafe.Pointer(unsafe.SliceData(p)), uintptr(cap(p))*unsafe.Sizeof(api.Step{}))
	for _, s := range p {
		l = append(l, textMemory(s.Key)...)
	}
	return l
}

// wantNew fails, if what is answered shares memory with what was given, or within itself.
func wantNew(t *testing.T, what string, answer []extent, given ...[]extent) {
	t.Helper()
	meets := func(a extent) func(extent) bool {
		return func(b extent) bool { return a.from < b.end && b.from < a.end }
	}
	for i, a := range answer {
		for _, g := range given {
			if slices.ContainsFunc(g, meets(a)) {
				t.Errorf("%s shares memory with what was given", what)
			}
		}
		if slices.ContainsFunc(answer[i+1:], meets(a)) {
			t.Errorf("%s shares memory within itself", what)
		}
	}
}

// copied is a value in other memory, with all the spare room of its lists shown.
func copied(v api.Value) api.Value {
	w := v
	w.L = slices.Clone(v.L[:cap(v.L)])
	for i := range w.L {
		w.L[i] = copied(w.L[i])
	}
	w.F = slices.Clone(v.F[:cap(v.F)])
	for i := range w.F {
		w.F[i].V = copied(w.F[i].V)
	}
	return w
}
