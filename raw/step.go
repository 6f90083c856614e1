package raw

import "filigree/api"

// within tells how many binders are around r's kids, if so many are around r.
func within(r Raw, binders int) int {
	if r.Kind == Lam {
		return binders + 1
	}
	return binders
}

// turn tells r in new memory, with what f makes of each Bound one's index
// within so many binders in its stead.
func turn(r Raw, binders int, f func(index, binders int) Raw) Raw {
	if r.Kind == Bound {
		return f(r.Index, binders)
	}
	binders = within(r, binders)
	return remake(r, func(x Raw) Raw { return turn(x, binders, f) })
}

// grow tells r, its loose indexes grown.
func grow(r Raw, by int) Raw {
	return turn(r, 0, func(index, binders int) Raw {
		if index >= binders {
			index += by
		}
		return Head(Bound, index)
	})
}

// Subst tells what body, a Lam's kid, is with arg for the index 0.
func Subst(body, arg Raw) Raw {
	return turn(body, 0, func(index, binders int) Raw {
		switch {
		case index == binders:
			return grow(arg, binders)
		case index > binders:
			// The Lam is gone: what pointed beyond it has one less to pass.
			index--
		}
		return Head(Bound, index)
	})
}

// reducible tells whether r itself is an App of a Lam and an argument.
func reducible(r Raw) bool {
	return r.Kind == App && wellFormed(r) && r.Kids[0].Kind == Lam && wellFormed(r.Kids[0])
}

// Step tells what the leftmost outermost step makes of r, and whether there is
// one.
func Step(r Raw) (Raw, bool) {
	done := false
	made := step(r, &done)
	return made, done
}

// step tells r in new memory, with its leftmost outermost step done, unless
// one was done ahead of it.
func step(r Raw, done *bool) Raw {
	if !*done && reducible(r) {
		*done = true
		return Subst(r.Kids[0].Kids[0], r.Kids[1])
	}
	return remake(r, func(x Raw) Raw { return step(x, done) })
}

// Loose tells how far r points beyond its own binders.
func Loose(r Raw) int { return loose(r, 0) }

// loose is Loose, where so many binders are around r that count as its own.
func loose(r Raw, binders int) int {
	if r.Kind == Bound {
		// An index below 0 may be too far off for a difference.
		if r.Index < binders {
			return 0
		}
		return min(r.Index-binders, api.MaxItems) + 1
	}
	binders = within(r, binders)
	most := 0
	for _, x := range r.Kids {
		most = max(most, loose(x, binders))
	}
	return most
}
