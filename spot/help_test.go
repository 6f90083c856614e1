package spot_test

import (
	"fmt"
	"iter"
	"math"
	"slices"

	"filigree/api"
	"filigree/kind"
	"filigree/spot"
	"filigree/term"
)

// The calls keep the signatures that the chapter lists.
var (
	_ func(term.Term, ...int) (term.Term, []kind.Type, api.Errno) = spot.At
	_ func(term.Term, term.Term, ...int) (term.Term, api.Errno)   = spot.Replace
	_ func(term.Term) iter.Seq2[[]int, term.Term]                 = spot.Each
	_ func(term.Term) [][]int                                     = spot.All
	_ func([]int, []int) int                                      = spot.Compare
	_ func([]int, ...int) bool                                    = spot.Under
	_ func([]int) string                                          = spot.Text
	_ func(string) ([]int, api.Errno)                             = spot.Parse
	_ func(term.Term, []kind.Type) term.Term                      = spot.Close
	_ func(term.Term, int) (term.Term, []kind.Type, api.Errno)    = spot.Open
)

// levels: as deep as the document lets anything be.
const levels = 1 << 16

func a() kind.Type  { return kind.Of(0) }
func b() kind.Type  { return kind.Of(1) }
func fn() kind.Type { return kind.Of(0, a()) }

// high: a type with types within types.
func high() kind.Type { return kind.Of(0, kind.Of(0, fn(), a()), b()) }

// tm: a term without binders.
func tm(kind, index int, args []term.Term) term.Term {
	return term.Term{Head: term.Head{Kind: kind, Index: index}, Args: args}
}

func v(i int, args ...term.Term) term.Term { return tm(0, i, args) }
func c(i int, args ...term.Term) term.Term { return tm(1, i, args) }
func m(i int, args ...term.Term) term.Term { return tm(2, i, args) }

// bind: t with these binders in the stead of its own.
func bind(t term.Term, l ...kind.Type) term.Term {
	t.Binds = l
	return t
}

// nested: t within so many terms of the constant 1, each of which binds one.
func nested(n int, t term.Term) term.Term {
	for range n {
		t = bind(c(1, t), b())
	}
	return t
}

// doubled: a term that has one of less depth twice, in the same memory: it
// takes little memory, and is of a size of 2 to the depth, less 1.
func doubled(depth int) term.Term {
	t := c(0)
	for range depth - 1 {
		t = c(2, t, t)
	}
	return t
}

// endless: a term that has itself within.
func endless() term.Term {
	t := bind(c(2, c(0), c(0)), fn())
	t.Args[1] = t
	return t
}

// example: f a (\x. g x), of the chapter.
func example() term.Term { return c(0, c(2), bind(c(1, v(0)), a())) }

// mixed: a term with binders everywhere.
func mixed() term.Term {
	return bind(c(0, bind(m(3, v(0), bind(c(5), fn(), b())), high()), c(1), bind(v(4, bind(v(0), a())), a(), b())), fn(), a())
}

// fronts: the lists of binders of terms that aren't typed.
func fronts() [][]kind.Type { return [][]kind.Type{nil, {a()}, {fn(), b()}} }

// ofSize: all terms of that size, of few heads, of at most three arguments and
// of at most two binders.
func ofSize(size int) []term.Term {
	var all []term.Term
	for _, args := range argsOf(size-1, 3) {
		for _, x := range []term.Term{v(1), c(0), m(2)} {
			for _, l := range fronts() {
				x.Args = args
				all = append(all, bind(x, l...))
			}
		}
	}
	return all
}

// argsOf: all lists of at most so many terms that are of that size together.
func argsOf(size, most int) [][]term.Term {
	if size == 0 {
		return [][]term.Term{nil}
	}
	if most == 0 {
		return nil
	}
	var all [][]term.Term
	for n := 1; n <= size; n++ {
		for _, x := range ofSize(n) {
			for _, rest := range argsOf(size-n, most-1) {
				all = append(all, append([]term.Term{x}, rest...))
			}
		}
	}
	return all
}

// upTo: all such terms of at most that size.
func upTo(size int) []term.Term {
	var all []term.Term
	for n := range size {
		all = append(all, ofSize(n+1)...)
	}
	return all
}

// ones: the terms that most tests go through.
func ones() []term.Term {
	return append(upTo(3), term.Term{}, example(), mixed(), c(0, mixed(), nested(4, mixed()), example()), doubled(4))
}

// paths: all lists of at most so many of these numbers, those that begin so
// behind their beginnings, by the first number, the second one, and so on.
func paths(most int, numbers ...int) [][]int {
	all := [][]int{nil}
	if most == 0 {
		return all
	}
	for _, n := range numbers {
		for _, rest := range paths(most-1, numbers...) {
			all = append(all, append([]int{n}, rest...))
		}
	}
	return all
}

// spots: by the text of each path within t what is there, as it stands in t,
// and the binders around it.
func spots(t term.Term) map[string]found {
	all := map[string]found{"[]": {t, t.Binds}}
	for i, x := range t.Args {
		for path, f := range spots(x) {
			key := fmt.Sprint(i, " ", path[1:])
			if path == "[]" {
				key = fmt.Sprint(i, "]")
			}
			all["["+key] = found{f.t, slices.Concat(t.Binds, f.around)}
		}
	}
	return all
}

// A found one is a term and the binders around it.
type found struct {
	t      term.Term
	around []kind.Type
}

// sameTypes: whether they are the same types, by the types' own package.
func sameTypes(x, y []kind.Type) bool { return slices.EqualFunc(x, y, kind.Equal) }

// zero: whether t is the zero term.
func zero(t term.Term) bool { return term.Equal(t, term.Term{}) }

// brief: x as a text, cut off where it is very long.
func brief(x any) string {
	s := fmt.Sprint(x)
	return s[:min(len(s), 300)]
}

// odd: numbers of any size.
func odd() []int {
	return []int{
		math.MinInt, math.MinInt + 1, math.MinInt32, -1000, -7, -1, 0, 1, 2, 3, 9, 10, 60, 61, 99, 100, 999, 1000, 1001,
		math.MaxInt32, math.MaxInt32 + 1, math.MaxInt - 1, math.MaxInt,
	}
}
