package match_test

import (
	"fmt"
	"math"
	"slices"

	"filigree/api"
	"filigree/kind"
	"filigree/match"
	"filigree/subst"
	"filigree/term"
)

// The calls keep the signatures that the chapter lists.
var (
	_ func(p, t term.Term) (subst.Subst, api.Errno)        = match.Match
	_ func(...match.Pair) (subst.Subst, api.Errno)         = match.All
	_ func(p, t term.Term) bool                            = match.Is
	_ func(p, t term.Term) bool                            = match.Variant
	_ func(p, t term.Term) ([]int, subst.Subst, api.Errno) = match.Find
	_ func(p, t term.Term) bool                            = match.Less
	_ struct{ Pattern, Term term.Term }                    = match.Pair{}
)

// levels: as deep as the document lets anything be.
const levels = 1 << 16

func a() kind.Type  { return kind.Of(0) }
func b() kind.Type  { return kind.Of(1) }
func fn() kind.Type { return kind.Of(0, a()) }

// high: a type with types within types.
func high() kind.Type { return kind.Of(0, kind.Of(0, fn(), a()), b()) }

// tm: a term without binders.
func tm(kind, index int, args []term.Term) term.Term {
	return term.Term{Head: term.Head{Kind: kind, Index: index}, Args: args}
}

func v(i int, args ...term.Term) term.Term { return tm(0, i, args) }
func c(i int, args ...term.Term) term.Term { return tm(1, i, args) }
func m(i int, args ...term.Term) term.Term { return tm(2, i, args) }

// bind: t with these binders in the stead of its own.
func bind(t term.Term, l ...kind.Type) term.Term {
	t.Binds = l
	return t
}

// long: the long form of the variable i, of arguments of these types.
func long(i int, l ...kind.Type) term.Term {
	return term.Eta(term.Head{Kind: term.Bound, Index: i}, kind.Of(0, l...))
}

// nested: t within so many terms of the constant 1, each of which binds one.
func nested(n int, t term.Term) term.Term {
	for range n {
		t = bind(c(1, t), b())
	}
	return t
}

// doubled: a term that has one of less depth twice, in the same memory: it
// takes little memory, and is of a size of 2 to the depth, less 1.
func doubled(depth int) term.Term {
	t := c(0)
	for range depth - 1 {
		t = c(2, t, t)
	}
	return t
}

// endless: a term that has itself within, behind t.
func endless(t term.Term) term.Term {
	x := bind(c(2, t, c(0)), fn())
	x.Args[1] = x
	return x
}

// pair: a pair.
func pair(p, t term.Term) match.Pair { return match.Pair{Pattern: p, Term: t} }

// list: the substitution of these terms for the metavariables from 0 on.
func list(l ...term.Term) subst.Subst {
	var s subst.Subst
	for i, x := range l {
		s = append(s, subst.Pair{Meta: i, Term: x})
	}
	return s
}

// one: the substitution of that term for that metavariable.
func one(meta int, x term.Term) subst.Subst { return subst.Subst{{Meta: meta, Term: x}} }

// mixed: a pattern with binders everywhere, and with variables of functions'
// types.
func mixed() term.Term {
	return bind(c(0,
		bind(m(3, long(0, high().Args...), long(2, a())), high()),
		c(1, m(2), v(1)),
		bind(m(4, long(0, high(), fn()), v(1)), kind.Of(0, high(), fn())),
	), fn(), a())
}

// fronts: the lists of binders of terms that aren't typed.
func fronts() [][]kind.Type { return [][]kind.Type{nil, {a()}, {fn(), b()}} }

// ofSize: all terms of that size, of few heads, of at most two arguments and
// of at most two binders.
func ofSize(size int) []term.Term {
	var all []term.Term
	for _, args := range argsOf(size-1, 2) {
		for _, x := range []term.Term{v(0), v(1), c(0), m(0), m(1)} {
			for _, l := range fronts() {
				x.Args = args
				all = append(all, bind(x, l...))
			}
		}
	}
	return all
}

// argsOf: all lists of at most so many terms that are of that size together.
func argsOf(size, most int) [][]term.Term {
	if size == 0 {
		return [][]term.Term{nil}
	}
	if most == 0 {
		return nil
	}
	var all [][]term.Term
	for n := 1; n <= size; n++ {
		for _, x := range ofSize(n) {
			for _, rest := range argsOf(size-n, most-1) {
				all = append(all, append([]term.Term{x}, rest...))
			}
		}
	}
	return all
}

// upTo: all such terms of at most that size.
func upTo(size int) []term.Term {
	var all []term.Term
	for n := range size {
		all = append(all, ofSize(n+1)...)
	}
	return all
}

// some: about so many of l, from all over it.
func some[T any](l []T, n int) []T {
	var all []T
	for k := 0; k < len(l); k += 1 + len(l)/n {
		all = append(all, l[k])
	}
	return all
}

// those: these of l.
func those(l []term.Term, f func(term.Term) bool) []term.Term {
	return slices.DeleteFunc(slices.Clone(l), func(x term.Term) bool { return !f(x) })
}

// none: whether s is the zero substitution.
func none(s subst.Subst) bool { return s == nil }

// brief: x as a text, cut off where it is very long.
func brief(x any) string {
	s := fmt.Sprint(x)
	return s[:min(len(s), 300)]
}

// odd: numbers of any size.
func odd() []int {
	return []int{
		math.MinInt, math.MinInt + 1, math.MinInt32, -1001, -2, -1, 0, 1, 2, 3, 59, 60, 61, 999, 1000, 1001, 1002,
		math.MaxInt32, math.MaxInt32 + 1, math.MaxInt - 1, math.MaxInt,
	}
}
