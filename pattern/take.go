package pattern

import (
	"filigree/api"
	"filigree/kind"
	"filigree/term"
)

// Take tells t, which stands within binds, with these variables taken out.
func Take(t term.Term, binds []kind.Type, vars ...int) (term.Term, api.Errno) {
	at, ok := places(vars, len(binds))
	if !ok {
		return term.Term{}, api.ErrArg
	}
	made, ok := turn(t, 0, func(index int) (int, bool) {
		if index >= len(binds) {
			return index - len(binds) + len(vars), true
		}
		place, ok := at[index]
		return len(vars) - 1 - place, ok
	})
	if !ok {
		return term.Term{}, api.ErrClash
	}
	var front []kind.Type
	for _, v := range vars {
		front = append(front, typeOf(v, binds))
	}
	made.Binds = append(fresh(front), made.Binds...)
	return made, api.OK
}

// turn tells t, which stands within so many binders of the whole, in new
// memory, with what f makes of each index that is loose there, or false, if f
// doesn't allow one.
func turn(t term.Term, binders int, f func(index int) (int, bool)) (term.Term, bool) {
	binders += len(t.Binds)
	made := term.Term{Binds: fresh(t.Binds), Head: t.Head}
	if t.Head.Kind == term.Bound && t.Head.Index >= binders {
		index, ok := f(t.Head.Index - binders)
		if !ok {
			return term.Term{}, false
		}
		made.Head.Index = binders + index
	}
	for _, x := range t.Args {
		arg, ok := turn(x, binders, f)
		if !ok {
			return term.Term{}, false
		}
		made.Args = append(made.Args, arg)
	}
	return made, true
}

// typeOf tells the type of a variable that binds bind, the innermost last.
func typeOf(v int, binds []kind.Type) kind.Type { return binds[len(binds)-1-v] }

// Make tells the metavariable, applied to these variables.
func Make(meta int, binds []kind.Type, vars ...int) (term.Term, api.Errno) {
	if _, ok := places(vars, len(binds)); !ok || meta < 0 {
		return term.Term{}, api.ErrArg
	}
	made := term.Term{Head: term.Head{Kind: term.Meta, Index: meta}}
	for _, v := range vars {
		made.Args = append(made.Args, long(v, typeOf(v, binds)))
	}
	return made, api.OK
}

// long tells the long form of the variable v, of that type. Chapter 6 tells
// that of indexes up to a limit alone, and there may be more binders; in a
// long form only the first head is loose.
func long(v int, of kind.Type) term.Term {
	made := term.Eta(term.Head{Kind: term.Bound}, of)
	made.Head.Index += v
	return made
}
