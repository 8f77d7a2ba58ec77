package dyn

import "math/bits"

// part is something that is being made: made of what stands at a place, so far
// without those inside it from next on.
type part[T, R any] struct {
	at     *T
	inside []*T
	next   int
	made   R
}

// build makes something of what stands at top, and of all inside it, from the left:
// begin answers what is made of a place alone, and the places inside it, put what is
// made with the one in place i. It answers false, if something is inside itself.
//
// What isn't done yet stands on a stack of its own: calls within calls would end the
// program where lists are deep enough, and no recover could help.
func build[T, R any](top *T, begin func(*T) (R, []*T), put func(made R, i int, x R) R) (R, bool) {
	made, inside := begin(top)
	open := []part[T, R]{{at: top, inside: inside, made: made}}
	for {
		last := &open[len(open)-1]
		if last.next < len(last.inside) {
			at := last.inside[last.next]
			if at == open[mark(len(open))].at {
				var none R
				return none, false
			}
			made, inside := begin(at)
			open = append(open, part[T, R]{at: at, inside: inside, made: made})
			continue
		}
		made := last.made
		open = open[:len(open)-1]
		if len(open) == 0 {
			return made, true
		}
		outer := &open[len(open)-1]
		outer.made = put(outer.made, outer.next, made)
		outer.next++
	}
}

// mark answers with which of so many open ones the next is held: the last whose number
// is a power of two. A way down that doesn't end goes round at last, and once the mark
// is on that round and is left for as long as it takes, it is met again; so one look
// at each step is enough.
func mark(open int) int {
	return 1 << bits.Len(uint(open-1)) >> 1
}
