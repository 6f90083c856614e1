package subst_test

import (
	"fmt"
	"math"
	"slices"

	"filigree/api"
	"filigree/budget"
	"filigree/kind"
	"filigree/subst"
	"filigree/term"
)

// The calls keep the signatures that the chapter lists.
var (
	_ func(subst.Subst) bool                                                  = subst.Right
	_ func(...subst.Pair) (subst.Subst, api.Errno)                            = subst.Of
	_ func(subst.Subst, int) (term.Term, bool)                                = subst.Get
	_ func(subst.Subst, int, term.Term) subst.Subst                           = subst.Set
	_ func(subst.Subst, ...int) subst.Subst                                   = subst.Without
	_ func(subst.Subst) []int                                                 = subst.Domain
	_ func(term.World, []kind.Type, subst.Subst) api.Errno                    = subst.Check
	_ func(subst.Subst, term.Term, *budget.Budget) (term.Term, api.Errno)     = subst.Apply
	_ func(subst.Subst, subst.Subst, *budget.Budget) (subst.Subst, api.Errno) = subst.Compose
	_ func(subst.Subst, subst.Subst) bool                                     = subst.Equal
	_ func(term.Term, int) (term.Term, api.Errno)                             = subst.Rename
	_ []subst.Pair                                                            = subst.Subst{{Meta: 0, Term: term.Term{}}}
)

const (
	// levels: as deep as the document lets anything be.
	levels = 1 << 16
	// work: as many units as one Put counts.
	work = 100000
	// nodes: of so many terms one may be.
	nodes = 5000
	// nest: so deep a term may be.
	nest = 60
)

func a() kind.Type  { return kind.Of(0) }
func b() kind.Type  { return kind.Of(1) }
func fn() kind.Type { return kind.Of(0, a()) }

// rows: so many times the type a.
func rows(n int) []kind.Type { return make([]kind.Type, n) }

// tm: a term without binders.
func tm(kind, index int, args []term.Term) term.Term {
	return term.Term{Head: term.Head{Kind: kind, Index: index}, Args: args}
}

func v(i int, args ...term.Term) term.Term { return tm(0, i, args) }
func c(i int, args ...term.Term) term.Term { return tm(1, i, args) }
func m(i int, args ...term.Term) term.Term { return tm(2, i, args) }

// bind: t with these binders in the stead of its own.
func bind(t term.Term, l ...kind.Type) term.Term {
	t.Binds = l
	return t
}

// many: so many of t, as terms' arguments.
func many(n int, t term.Term) []term.Term { return slices.Repeat([]term.Term{t}, n) }

// wide: a constant with as many arguments as make that size.
func wide(size int) term.Term { return c(0, many(size-1, c(1))...) }

// nested: t within so many terms of the constant 1.
func nested(n int, t term.Term) term.Term {
	for range n {
		t = c(1, t)
	}
	return t
}

// doubled: a term that has one of less depth twice, in the same memory: it
// takes little memory, and is of a size of 2 to the depth, less 1.
func doubled(depth int) term.Term {
	t := c(0)
	for range depth - 1 {
		t = c(2, t, t)
	}
	return t
}

// endless: a term that has itself within.
func endless() term.Term {
	t := c(2, c(0), c(0))
	t.Args[1] = t
	return t
}

// list: these terms as pairs, numbered from 0 on.
func list(l ...term.Term) subst.Subst {
	var s subst.Subst
	for i, t := range l {
		s = append(s, subst.Pair{Meta: i, Term: t})
	}
	return s
}

// one: the substitution of one pair.
func one(meta int, t term.Term) subst.Subst { return subst.Subst{{Meta: meta, Term: t}} }

// same: whether they are the same pairs, by the terms' own package.
func same(x, y subst.Subst) bool {
	return slices.EqualFunc(x, y, func(p, q subst.Pair) bool {
		return p.Meta == q.Meta && term.Equal(p.Term, q.Term)
	})
}

// zero: whether t is the zero term.
func zero(t term.Term) bool { return term.Equal(t, term.Term{}) }

// small: a world of these constants: z, of a; s, of a -> a; p, of a -> a -> a;
// l, of (a -> a) -> a; k, of a -> b; and metavariables of a, of a -> a, of
// (a -> a) -> a and of b -> a -> a.
func small() term.World {
	return term.World{
		Bases:  2,
		Consts: []kind.Type{a(), fn(), kind.Of(0, a(), a()), kind.Of(0, fn()), kind.Of(1, a())},
		Metas:  []kind.Type{a(), fn(), kind.Of(0, fn()), kind.Of(0, b(), a())},
	}
}

// brief: x as a text, cut off where it is very long.
func brief(x any) string {
	s := fmt.Sprint(x)
	return s[:min(len(s), 300)]
}

// odd: numbers of any size.
func odd() []int {
	return []int{
		math.MinInt, math.MinInt + 1, math.MinInt + 1000, math.MinInt32, -1001, -1000, -2, -1, 0, 1, 2, 999, 1000, 1001, 2000,
		1000000, 1000001, math.MaxInt32, math.MaxInt - 1001, math.MaxInt - 1000, math.MaxInt - 999, math.MaxInt - 1, math.MaxInt,
	}
}
