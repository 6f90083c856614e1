package subst

import (
	"cmp"
	"slices"

	"filigree/api"
	"filigree/budget"
	"filigree/norm"
	"filigree/term"
)

// Apply tells t with s's terms for its metavariables, and spends b's units for
// it.
func Apply(s Subst, t term.Term, b *budget.Budget) (term.Term, api.Errno) {
	if b == nil || !Right(s) {
		return term.Term{}, api.ErrArg
	}
	a := applier{Budget: b, subst: s}
	made := a.apply(t, 0)
	switch {
	case a.err != api.OK:
		return term.Term{}, a.err
	case !term.Right(made):
		return term.Term{}, api.ErrLong
	}
	return term.Copy(made), api.OK
}

// Compose tells the substitution that does what s and, behind it, t does, and
// spends b's units for it.
func Compose(s, t Subst, b *budget.Budget) (Subst, api.Errno) {
	if b == nil || !Right(s) || !Right(t) {
		return nil, api.ErrArg
	}
	var made Subst
	for _, p := range s {
		u, e := Apply(t, p.Term, b)
		if e != api.OK {
			return nil, e
		}
		made = append(made, Pair{Meta: p.Meta, Term: u})
	}
	return ordered(append(made, Without(t, Domain(s)...)...)), api.OK
}

// applier goes through a term. What it makes has lists of types in common with
// that term: they are copied once, at the end, as what is made on the way may
// be very much more, and be dropped.
type applier struct {
	*budget.Budget
	subst Subst
	err   api.Errno // the first one
}

// fail keeps e: who meets it goes no further.
func (a *applier) fail(e api.Errno) term.Term {
	a.err = e
	return term.Term{}
}

// find tells h's term, if h is a metavariable of the substitution.
func (a *applier) find(h term.Head) (term.Term, bool) {
	if h.Kind != term.Meta {
		return term.Term{}, false
	}
	i, ok := slices.BinarySearchFunc(a.subst, h.Index, func(p Pair, meta int) int { return cmp.Compare(p.Meta, meta) })
	if !ok {
		return term.Term{}, false
	}
	return a.subst[i].Term, true
}

// apply tells what t becomes, within so many binders of the whole.
func (a *applier) apply(t term.Term, binders int) term.Term {
	if !a.Spend(1) {
		return a.fail(api.ErrFuel)
	}
	binders += len(t.Binds)
	made := term.Term{Binds: t.Binds, Head: t.Head}
	for _, x := range t.Args {
		arg := a.apply(x, binders)
		if a.err != api.OK {
			return term.Term{}
		}
		made.Args = append(made.Args, arg)
	}
	if u, ok := a.find(t.Head); ok {
		made = a.put(u, binders, made.Args)
		made.Binds = t.Binds
	}
	return made
}

// put tells u, seen from within so many binders, with args for its variables.
func (a *applier) put(u term.Term, binders int, args []term.Term) term.Term {
	if len(u.Binds) != len(args) {
		return a.fail(api.ErrArg)
	}
	g := grower{by: binders, left: api.MaxWork}
	made, e := norm.Put(g.grow(u, 0), a.Budget, args...)
	if e != api.OK {
		return a.fail(e)
	}
	return made
}

// grower grows loose indexes, without a limit to them, in as many terms as a
// Put may count. It leaves all that lies behind these as it is: a Put ends
// ahead of it, and it may be very much more.
type grower struct{ by, left int }

// grow tells t, which stands within so many binders of the whole, grown.
func (g *grower) grow(t term.Term, binders int) term.Term {
	if g.left == 0 {
		return t
	}
	g.left--
	binders += len(t.Binds)
	made := term.Term{Binds: t.Binds, Head: t.Head}
	if t.Head.Kind == term.Bound && t.Head.Index >= binders {
		made.Head.Index += g.by
	}
	for _, x := range t.Args {
		made.Args = append(made.Args, g.grow(x, binders))
	}
	return made
}
