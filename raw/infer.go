package raw

import (
	"slices"

	"filigree/api"
	"filigree/kind"
	"filigree/term"
)

// Infer tells r's type.
func Infer(w term.World, ctx []kind.Type, r Raw) (kind.Type, api.Errno) {
	if !Right(r) {
		return kind.Type{}, api.ErrArg
	}
	f := finder{world: w, ctx: slices.Clone(ctx)}
	return f.find(r)
}

// finder goes through a raw term. One context serves for all that is within,
// as a stack: one for each would take as many times as long as contexts are.
type finder struct {
	world term.World
	ctx   []kind.Type
}

// find tells r's type in the context as it stands, and leaves that as it was,
// if there is no error.
func (f *finder) find(r Raw) (kind.Type, api.Errno) {
	t, e := f.of(r)
	if e == api.OK && kind.Size(t) > api.MaxItems {
		e = api.ErrLong
	}
	if e != api.OK {
		return kind.Type{}, e
	}
	return t, api.OK
}

// of is find, whatever size the type has.
func (f *finder) of(r Raw) (kind.Type, api.Errno) {
	switch r.Kind {
	case Lam:
		return f.lam(r.Type, r.Kids[0])
	case App:
		return f.app(r.Kids[0], r.Kids[1])
	}
	return term.HeadType(f.world, f.ctx, term.Head{Kind: r.Kind, Index: r.Index})
}

// lam tells the type of a Lam of that type and kid.
func (f *finder) lam(t kind.Type, kid Raw) (kind.Type, api.Errno) {
	if !kind.Right(t, f.world.Bases) {
		return kind.Type{}, api.ErrLong
	}
	f.ctx = append(f.ctx, t)
	to, e := f.find(kid)
	if e != api.OK {
		return kind.Type{}, e
	}
	f.ctx = f.ctx[:len(f.ctx)-1]
	return kind.Arrow(to, t), api.OK
}

// app tells the type of an App of a function to an argument.
func (f *finder) app(function, arg Raw) (kind.Type, api.Errno) {
	from, e := f.find(function)
	if e != api.OK {
		return kind.Type{}, e
	}
	of, e := f.find(arg)
	if e != api.OK {
		return kind.Type{}, e
	}
	to, e := kind.Rest(from, 1)
	if e != api.OK || !kind.Equal(from.Args[0], of) {
		return kind.Type{}, api.ErrType
	}
	return to, api.OK
}
