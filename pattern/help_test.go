package pattern_test

import (
	"fmt"
	"math"
	"slices"

	"filigree/api"
	"filigree/kind"
	"filigree/pattern"
	"filigree/term"
)

// The calls keep the signatures that the chapter lists.
var (
	_ func(term.Term, int) ([]int, api.Errno)                        = pattern.Vars
	_ func(term.Term) ([]pattern.Use, api.Errno)                     = pattern.Uses
	_ func(term.Term) bool                                           = pattern.Is
	_ func(term.Term) bool                                           = pattern.Linear
	_ func(term.Term) bool                                           = pattern.Flex
	_ func(term.Term, []kind.Type, ...int) (term.Term, api.Errno)    = pattern.Take
	_ func(meta int, l []kind.Type, v ...int) (term.Term, api.Errno) = pattern.Make
	_ func([]int, []int) bool                                        = pattern.Same
	_ struct {
		Meta  int
		Vars  []int
		Binds []kind.Type
		Path  []int
	} = pattern.Use{}
)

// levels: as deep as the document lets anything be.
const levels = 1 << 16

func a() kind.Type  { return kind.Of(0) }
func b() kind.Type  { return kind.Of(1) }
func fn() kind.Type { return kind.Of(0, a()) }

// high: a type with types within types.
func high() kind.Type { return kind.Of(0, kind.Of(0, fn(), a()), b()) }

// types: a list of them, as terms bind.
func types(l ...kind.Type) []kind.Type { return l }

// tm: a term without binders.
func tm(kind, index int, args []term.Term) term.Term {
	return term.Term{Head: term.Head{Kind: kind, Index: index}, Args: args}
}

func v(i int, args ...term.Term) term.Term { return tm(0, i, args) }
func c(i int, args ...term.Term) term.Term { return tm(1, i, args) }
func m(i int, args ...term.Term) term.Term { return tm(2, i, args) }

// bind: t with these binders in the stead of its own.
func bind(t term.Term, l ...kind.Type) term.Term {
	t.Binds = l
	return t
}

// long: the long form of the variable i, of arguments of these types.
func long(i int, l ...kind.Type) term.Term {
	return term.Eta(term.Head{Kind: term.Bound, Index: i}, kind.Of(0, l...))
}

// nested: t within so many terms of the constant 1, each of which binds one.
func nested(n int, t term.Term) term.Term {
	for range n {
		t = bind(c(1, t), b())
	}
	return t
}

// doubled: a term that has one of less depth twice, in the same memory: it
// takes little memory, and is of a size of 2 to the depth, less 1.
func doubled(depth int) term.Term {
	t := c(0)
	for range depth - 1 {
		t = c(2, t, t)
	}
	return t
}

// endless: a term that has itself within, behind t.
func endless(t term.Term) term.Term {
	x := bind(c(2, t, c(0)), fn())
	x.Args[1] = x
	return x
}

// mixed: a pattern with binders everywhere, and with variables of functions'
// types.
func mixed() term.Term {
	return bind(c(0,
		bind(m(3, v(0), bind(v(3, v(0)), a())), high()),
		c(1, m(2), v(1)),
		bind(m(3, long(0, high(), fn()), v(2)), kind.Of(0, high(), fn())),
	), fn(), a())
}

// fronts: the lists of binders of terms that aren't typed.
func fronts() [][]kind.Type { return [][]kind.Type{nil, {a()}, {fn(), b()}} }

// ofSize: all terms of that size, of few heads, of at most three arguments and
// of at most two binders.
func ofSize(size int) []term.Term {
	var all []term.Term
	for _, args := range argsOf(size-1, 3) {
		for _, x := range []term.Term{v(0), v(1), v(2), c(0), m(0), m(2)} {
			for _, l := range fronts() {
				x.Args = args
				all = append(all, bind(x, l...))
			}
		}
	}
	return all
}

// argsOf: all lists of at most so many terms that are of that size together.
func argsOf(size, most int) [][]term.Term {
	if size == 0 {
		return [][]term.Term{nil}
	}
	if most == 0 {
		return nil
	}
	var all [][]term.Term
	for n := 1; n <= size; n++ {
		for _, x := range ofSize(n) {
			for _, rest := range argsOf(size-n, most-1) {
				all = append(all, append([]term.Term{x}, rest...))
			}
		}
	}
	return all
}

// upTo: all such terms of at most that size.
func upTo(size int) []term.Term {
	var all []term.Term
	for n := range size {
		all = append(all, ofSize(n+1)...)
	}
	return all
}

// ones: the terms that most tests go through.
func ones() []term.Term {
	return append(upTo(3), mixed(), c(0, mixed(), nested(4, mixed()), mixed()), doubled(4), nested(3, m(1, v(2), v(0))))
}

// lists: all lists of at most so many of these numbers.
func lists(most int, numbers ...int) [][]int {
	all := [][]int{nil}
	if most == 0 {
		return all
	}
	for _, n := range numbers {
		for _, rest := range lists(most-1, numbers...) {
			all = append(all, append([]int{n}, rest...))
		}
	}
	return all
}

// choices: all lists of numbers from 0 to n, less 1, no two of which are the
// same.
func choices(n int) [][]int {
	var all [][]int
	for _, l := range lists(n, slices.Collect(count(n))...) {
		if distinct(l) {
			all = append(all, l)
		}
	}
	return all
}

// count gives the numbers from 0 to n, less 1.
func count(n int) func(func(int) bool) {
	return func(yield func(int) bool) {
		for i := 0; i < n && yield(i); i++ {
		}
	}
}

func distinct(l []int) bool {
	for i, x := range l {
		if slices.Contains(l[:i], x) {
			return false
		}
	}
	return true
}

// among: whether all of l are from 0 to n, less 1.
func among(l []int, n int) bool {
	return !slices.ContainsFunc(l, func(x int) bool { return x < 0 || x >= n })
}

// sameTypes: whether they are the same types, by the types' own package.
func sameTypes(x, y []kind.Type) bool { return slices.EqualFunc(x, y, kind.Equal) }

// zero: whether t is the zero term.
func zero(t term.Term) bool { return term.Equal(t, term.Term{}) }

// brief: x as a text, cut off where it is very long.
func brief(x any) string {
	s := fmt.Sprint(x)
	return s[:min(len(s), 300)]
}

// odd: numbers of any size.
func odd() []int {
	return []int{
		math.MinInt, math.MinInt + 1, math.MinInt32, -1001, -2, -1, 0, 1, 2, 3, 59, 60, 61, 999, 1000, 1001, 1002,
		math.MaxInt32, math.MaxInt32 + 1, math.MaxInt - 1, math.MaxInt,
	}
}
