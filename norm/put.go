package norm

import (
	"filigree/api"
	"filigree/budget"
	"filigree/term"
)

// Put tells t with args for its first variables, and spends b's units for it.
func Put(t term.Term, b *budget.Budget, args ...term.Term) (term.Term, api.Errno) {
	if b == nil || len(t.Binds) < len(args) {
		return term.Term{}, api.ErrArg
	}
	p := putter{Budget: b}
	return p.answer(p.put(t, args...))
}

// putter puts terms. What it makes has lists of types in common with what it
// is handed: they are copied once, at the end, as what is made on the way may
// be very much more, and be dropped.
type putter struct {
	*budget.Budget
	counted int
	err     api.Errno // the first one
}

// count counts a unit, and tells whether there was one.
func (p *putter) count() bool {
	switch {
	case p.err != api.OK:
	case p.counted == api.MaxWork:
		p.err = api.ErrLong
	case !p.Spend(1):
		p.err = api.ErrFuel
	default:
		p.counted++
	}
	return p.err == api.OK
}

// fail keeps e, unless there was an error ahead.
func (p *putter) fail(e api.Errno) term.Term {
	if p.err == api.OK {
		p.err = e
	}
	return term.Term{}
}

// answer tells what a call has made as new memory, or the error.
func (p *putter) answer(made term.Term) (term.Term, api.Errno) {
	if p.err != api.OK {
		return term.Term{}, p.err
	}
	return term.Copy(made), api.OK
}

// filling is what a term's body is gone through with: what is put for the
// variables, and by how much an index that points further out grows, as the
// term is seen from further in than it was made. Terms aren't grown ahead:
// only as much of one is looked at as there are units for.
type filling struct {
	args []term.Term
	by   int
}

// put tells t with args for its first variables, of which it has so many.
func (p *putter) put(t term.Term, args ...term.Term) term.Term {
	rest := t.Binds[len(args):]
	made := p.body(t, len(rest), &filling{args: args})
	made.Binds = rest
	return made
}

// fill tells t, seen from so many binders further in, with args for all of its
// variables.
func (p *putter) fill(t term.Term, by int, args []term.Term) term.Term {
	if len(t.Binds) != len(args) {
		return p.fail(api.ErrArg)
	}
	return p.body(t, 0, &filling{args: args, by: by})
}

// body tells what t becomes, without its binders, where so many binders that
// stay, its own among them, are between it and those that are filled.
func (p *putter) body(t term.Term, binders int, f *filling) term.Term {
	if !p.count() {
		return term.Term{}
	}
	made := term.Term{Head: t.Head}
	for _, x := range t.Args {
		arg := p.body(x, binders+len(x.Binds), f)
		if p.err != api.OK {
			return term.Term{}
		}
		arg.Binds = x.Binds
		made.Args = append(made.Args, arg)
	}
	if t.Head.Kind != term.Bound || t.Head.Index < binders {
		return made
	}
	// The last variable has the least index.
	if k := len(f.args) - 1 - (t.Head.Index - binders); k >= 0 {
		return p.fill(f.args[k], binders, made.Args)
	}
	made.Head.Index += f.by - len(f.args)
	return made
}
