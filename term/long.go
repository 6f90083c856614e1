package term

import (
	"slices"

	"filigree/api"
	"filigree/kind"
)

// Eta tells the long form of h, of that type.
func Eta(h Head, of kind.Type) Term {
	if h.Kind == Bound && (h.Index < 0 || h.Index > api.MaxItems) {
		return Term{}
	}
	return long(h, of.Args)
}

// long tells the long form of h, whose arguments are of these types.
func long(h Head, types []kind.Type) Term {
	t := Term{Binds: each(types, freshType), Head: inside(h, len(types))}
	for i, x := range types {
		t.Args = append(t.Args, long(variable(i, types), x.Args))
	}
	return t
}

// inside tells h as it is seen from within so many binders.
func inside(h Head, binders int) Head {
	if h.Kind == Bound {
		h.Index += binders
	}
	return h
}

// variable tells the head that the i-th binder of these types binds, the first
// one being 0, as it is seen from within all of them.
func variable(i int, types []kind.Type) Head {
	return Head{Kind: Bound, Index: len(types) - 1 - i}
}

// Var tells of which head t is the long form, and whether it is one.
func Var(t Term) (Head, bool) {
	h, ok := look(t.Head, len(t.Binds))
	if !ok || !isLong(t, h, t.Binds) {
		return Head{}, false
	}
	return h, true
}

// isLong tells whether t is the long form of h, whose arguments are of these
// types. It doesn't make that: types may be far greater than t.
func isLong(t Term, h Head, types []kind.Type) bool {
	if t.Head != inside(h, len(types)) || len(t.Args) != len(types) || !slices.EqualFunc(t.Binds, types, kind.Equal) {
		return false
	}
	for i, x := range t.Args {
		if !isLong(x, variable(i, types), types[i].Args) {
			return false
		}
	}
	return true
}
