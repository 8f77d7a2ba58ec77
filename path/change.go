package path

import (
	"slices"

	"cascade/api"
	"cascade/tree"
)

// Find answers the value to which p leads in v, and true, if it leads to one.
func Find(v api.Value, p []api.Step) (api.Value, bool) {
	x, e := target(v, p)
	if e != api.OK {
		return api.Value{}, false
	}
	return tree.Clone(x), true
}

// Put answers v, but that p leads to x.
func Put(v api.Value, p []api.Step, x api.Value) (api.Value, api.Errno) {
	if _, e := target(v, p, x); e != api.OK {
		return api.Value{}, e
	}
	return changed(v, p, x)
}

// Merge answers v, but that the object to which p leads has the pairs of o behind
// its own, and is ordered by order then.
func Merge(v api.Value, p []api.Step, o api.Value, order []string) (api.Value, api.Errno) {
	if o.Kind != api.Object {
		return api.Value{}, api.ErrArg
	}
	x, e := target(v, p, o)
	if e != api.OK {
		return api.Value{}, e
	}
	if x.Kind != api.Object {
		return api.Value{}, api.ErrType
	}
	if keyInBoth(x.F, o.F) {
		return api.Value{}, api.ErrTwice
	}
	// Appending to x.F would write into the spare room of what was handed in.
	x.F = slices.Concat(x.F, o.F)
	x, e = tree.Ordered(x, order)
	if e != api.OK {
		return api.Value{}, e
	}
	return changed(v, p, x)
}

// Add answers v, but that the list to which p leads has the values of l behind its own.
func Add(v api.Value, p []api.Step, l []api.Value) (api.Value, api.Errno) {
	x, e := target(v, p, l...)
	if e != api.OK {
		return api.Value{}, e
	}
	if x.Kind != api.List {
		return api.Value{}, api.ErrType
	}
	x.L = slices.Concat(x.L, l)
	return changed(v, p, x)
}

// target answers the value to which p leads in v, in v's own memory: ErrArg, if v, p
// or one of those that are to come in isn't right; ErrName, if p leads nowhere.
func target(v api.Value, p []api.Step, in ...api.Value) (api.Value, api.Errno) {
	if !tree.Right(v) || !Right(p) {
		return api.Value{}, api.ErrArg
	}
	for _, x := range in {
		if !tree.Right(x) {
			return api.Value{}, api.ErrArg
		}
	}
	x, leads := follow(v, p)
	if !leads {
		return api.Value{}, api.ErrName
	}
	return x, api.OK
}

// follow goes a right path from v on.
func follow(v api.Value, p []api.Step) (api.Value, bool) {
	if len(p) == 0 {
		return v, true
	}
	i := member(v, p[0])
	switch {
	case i < 0:
		return api.Value{}, false
	case p[0].Index:
		return follow(v.L[i], p[1:])
	}
	return follow(v.F[i].V, p[1:])
}

// member answers which value of a list, or which pair of an object, a right step leads to; -1, if to none.
func member(v api.Value, s api.Step) int {
	switch {
	case s.Index && v.Kind == api.List && s.At < len(v.L):
		return s.At
	case !s.Index && v.Kind == api.Object:
		return slices.IndexFunc(v.F, func(f api.Pair) bool {
			return s == api.Step{Key: f.Key}
		})
	}
	return -1
}

// keyInBoth tells whether a key stands in both.
func keyInBoth(a, b []api.Pair) bool {
	// Objects may be long: a map finds a key without a walk over all of them.
	places := make(map[string]int, len(a))
	for i, f := range a {
		places[f.Key] = i
	}
	return slices.ContainsFunc(b, func(f api.Pair) bool {
		_, met := places[f.Key]
		return met
	})
}

// changed answers v anew, with x where p leads, or ErrDeep.
func changed(v api.Value, p []api.Step, x api.Value) (api.Value, api.Errno) {
	w := replaced(v, p, x)
	// Of right values put together just the depth can be wrong.
	if !tree.Right(w) {
		return api.Value{}, api.ErrDeep
	}
	return tree.Clone(w), api.OK
}

// replaced answers v with x where p leads; all lists on the way are new, all else is still shared.
func replaced(v api.Value, p []api.Step, x api.Value) api.Value {
	if len(p) == 0 {
		return x
	}
	i := member(v, p[0])
	if p[0].Index {
		v.L = slices.Clone(v.L)
		v.L[i] = replaced(v.L[i], p[1:], x)
		return v
	}
	v.F = slices.Clone(v.F)
	v.F[i].V = replaced(v.F[i].V, p[1:], x)
	return v
}
