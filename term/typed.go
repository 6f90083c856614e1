package term

import (
	"slices"

	"filigree/api"
	"filigree/kind"
)

// RightWorld tells whether w's types are right and not too many.
func RightWorld(w World) bool {
	if len(w.Consts)+len(w.Metas) > api.MaxItems {
		return false
	}
	wrong := func(t kind.Type) bool { return !kind.Right(t, w.Bases) }
	return !slices.ContainsFunc(w.Consts, wrong) && !slices.ContainsFunc(w.Metas, wrong)
}

// HeadType tells a head's type.
func HeadType(w World, ctx []kind.Type, h Head) (kind.Type, api.Errno) {
	t, ok := find(w, ctx, h)
	if !ok {
		return kind.Type{}, api.ErrNone
	}
	return freshType(t), api.OK
}

// find tells a head's type, as it stands in w or ctx, and whether it is there.
func find(w World, ctx []kind.Type, h Head) (kind.Type, bool) {
	var l []kind.Type
	switch h.Kind {
	case Bound:
		l = ctx
	case Const:
		l = w.Consts
	case Meta:
		l = w.Metas
	}
	if h.Index < 0 || h.Index >= len(l) {
		return kind.Type{}, false
	}
	if h.Kind == Bound {
		return l[len(l)-1-h.Index], true
	}
	return l[h.Index], true
}

// TypeOf tells t's type, by its binders and its head.
func TypeOf(w World, ctx []kind.Type, t Term) (kind.Type, api.Errno) {
	h, ok := find(w, slices.Concat(ctx, t.Binds), t.Head)
	if !ok {
		return kind.Type{}, api.ErrNone
	}
	return kind.Of(h.Base, t.Binds...), api.OK
}

// Check tells why t isn't a right term of that type.
func Check(w World, ctx []kind.Type, t Term, of kind.Type) api.Errno {
	if !Right(t) {
		return api.ErrLong
	}
	c := checker{world: w, ctx: slices.Clone(ctx)}
	if !c.is(t, of) {
		return api.ErrType
	}
	return api.OK
}

// checker goes through a term. One context serves for all that is within, as
// a stack: one for each would take as many times as long as contexts are.
type checker struct {
	world World
	ctx   []kind.Type
}

// is tells whether t is of that type, in the context as it stands. It leaves
// that as it was, if so.
func (c *checker) is(t Term, of kind.Type) bool {
	if !slices.EqualFunc(t.Binds, of.Args, kind.Equal) {
		return false
	}
	c.ctx = append(c.ctx, t.Binds...)
	h, ok := find(c.world, c.ctx, t.Head)
	if !ok || h.Base != of.Base || len(h.Args) != len(t.Args) {
		return false
	}
	for i, x := range t.Args {
		if !c.is(x, h.Args[i]) {
			return false
		}
	}
	c.ctx = c.ctx[:len(c.ctx)-len(t.Binds)]
	return true
}
