package term_test

import (
	"math"
	"slices"
	"strconv"
	"strings"

	"filigree/api"
	"filigree/kind"
	"filigree/term"
)

// The calls keep the signatures that the chapter lists.
var (
	_ func(term.Term) bool                                            = term.Right
	_ func(term.Term) int                                             = term.Size
	_ func(term.Term) int                                             = term.Depth
	_ func(term.Term, term.Term) bool                                 = term.Equal
	_ func(term.Term, term.Term) int                                  = term.Compare
	_ func(term.World, []kind.Type, term.Head) (kind.Type, api.Errno) = term.HeadType
	_ func(term.World, []kind.Type, term.Term) (kind.Type, api.Errno) = term.TypeOf
	_ func(term.World, []kind.Type, term.Term, kind.Type) api.Errno   = term.Check
	_ func(term.Term) int                                             = term.Loose
	_ func(term.Term, int, int) (term.Term, api.Errno)                = term.Shift
	_ func(...term.Term) []int                                        = term.Metas
	_ func(term.Term, term.Head) int                                  = term.Count
	_ func(term.Head, kind.Type) term.Term                            = term.Eta
	_ func(term.Term) (term.Head, bool)                               = term.Var
	_ func(term.Term) term.Term                                       = term.Body
	_ func(term.Term) term.Term                                       = term.Copy
	_ func(term.World) bool                                           = term.RightWorld
	_                                                                 = term.Head{Kind: 0, Index: 0}
	_                                                                 = term.Term{Binds: []kind.Type{}, Head: term.Head{}, Args: []term.Term{}}
	_                                                                 = term.World{Bases: 0, Consts: []kind.Type{}, Metas: []kind.Type{}}
	_ int8                                                            = term.Bound + term.Const + term.Meta
)

// levels: as deep as the document lets anything be.
const levels = 1 << 16

// of makes a type without the help of package kind.
func of(base int, args ...kind.Type) kind.Type { return kind.Type{Args: args, Base: base} }

func a() kind.Type { return of(0) }
func b() kind.Type { return of(1) }

// types: a list of them, as terms bind.
func types(l ...kind.Type) []kind.Type { return l }

func head(k, i int) term.Head { return term.Head{Kind: k, Index: i} }

func bound(i int, args ...term.Term) term.Term { return term.Term{Head: head(0, i), Args: args} }
func con(i int, args ...term.Term) term.Term   { return term.Term{Head: head(1, i), Args: args} }
func meta(i int, args ...term.Term) term.Term  { return term.Term{Head: head(2, i), Args: args} }

// lam: t, binding these ahead of its own.
func lam(t term.Term, binds ...kind.Type) term.Term {
	return term.Term{Binds: slices.Concat(binds, t.Binds), Head: t.Head, Args: t.Args}
}

// odd: numbers of any size.
func odd() []int {
	return []int{math.MinInt, math.MinInt + 1, math.MinInt32, -1001, -2, -1, 0, 1, 2, 3, 999, 1000, 1001, 1002, math.MaxInt32, math.MaxInt - 1, math.MaxInt}
}

// chain: a term of that depth, of one argument at each level, where each binds
// these and has the head Const 0, the innermost one t.
func chain(depth int, t term.Term, binds ...kind.Type) term.Term {
	for range depth - 1 {
		t = lam(con(0, t), binds...)
	}
	return t
}

// wide: a term of so many arguments, none of which has any.
func wide(n int) term.Term { return con(0, slices.Repeat([]term.Term{con(1)}, n)...) }

// doubled: a term that has one of less depth twice, in the same memory: it
// takes little memory, and is of a size of 2 to the depth, less 1.
func doubled(depth int) term.Term {
	t := con(0)
	for range depth - 1 {
		t = con(0, t, t)
	}
	return t
}

// lists: all lists of terms of so many terms in all, of these heads and binders.
func lists(size int, heads []term.Head, binds [][]kind.Type) [][]term.Term {
	if size == 0 {
		return [][]term.Term{nil}
	}
	var all [][]term.Term
	for first := 1; first <= size; first++ {
		for _, t := range ofSize(first, heads, binds) {
			for _, rest := range lists(size-first, heads, binds) {
				all = append(all, append([]term.Term{t}, rest...))
			}
		}
	}
	return all
}

// ofSize: all terms of that size, of these heads and binders.
func ofSize(size int, heads []term.Head, binds [][]kind.Type) []term.Term {
	var all []term.Term
	for _, args := range lists(size-1, heads, binds) {
		for _, h := range heads {
			for _, l := range binds {
				all = append(all, term.Term{Binds: l, Head: h, Args: args})
			}
		}
	}
	return all
}

// upTo: all terms of at most that size, of these heads and binders.
func upTo(size int, heads []term.Head, binds ...[]kind.Type) []term.Term {
	var all []term.Term
	for n := 1; n <= size; n++ {
		all = append(all, ofSize(n, heads, binds)...)
	}
	return all
}

// codeType: t, told so that no two types are told the same.
func codeType(t kind.Type) string {
	var s strings.Builder
	putType(&s, t)
	return s.String()
}

func putType(s *strings.Builder, t kind.Type) {
	s.WriteString("[")
	for _, x := range t.Args {
		putType(s, x)
	}
	s.WriteString(strconv.Itoa(t.Base) + "]")
}

// code: t, told so that no two terms are told the same; it doesn't go through
// the package.
func code(t term.Term) string {
	var s strings.Builder
	put(&s, t)
	return s.String()
}

func put(s *strings.Builder, t term.Term) {
	s.WriteString("(")
	for _, x := range t.Binds {
		putType(s, x)
	}
	s.WriteString(string("bcm?"[min(uint(t.Head.Kind), 3)]) + strconv.Itoa(t.Head.Kind) + ":" + strconv.Itoa(t.Head.Index))
	for _, x := range t.Args {
		put(s, x)
	}
	s.WriteString(")")
}

func same(x, y term.Term) bool { return code(x) == code(y) }

// zero: whether t is the zero term.
func zero(t term.Term) bool { return t.Head == term.Head{} && len(t.Binds) == 0 && len(t.Args) == 0 }

// twinType: t in other memory.
func twinType(t kind.Type) kind.Type {
	c := kind.Type{Base: t.Base}
	for _, x := range t.Args {
		c.Args = append(c.Args, twinType(x))
	}
	return c
}

// twin: t in other memory, without the package's help.
func twin(t term.Term) term.Term {
	c := term.Term{Head: t.Head}
	for _, x := range t.Binds {
		c.Binds = append(c.Binds, twinType(x))
	}
	for _, x := range t.Args {
		c.Args = append(c.Args, twin(x))
	}
	return c
}

// spoilTypes changes all of l that it shares with others of the same memory.
func spoilTypes(l []kind.Type) {
	for i := range l {
		spoilTypes(l[i].Args)
		l[i] = of(-99, of(-98))
	}
}

// spoil changes all of t that it shares with others of the same memory.
func spoil(t term.Term) {
	spoilTypes(t.Binds)
	for i := range t.Args {
		spoil(t.Args[i])
		t.Args[i] = lam(con(-97, con(-96)), of(-95))
	}
}

// grow puts something behind each list of t, where there is room.
func grow(t term.Term) {
	_ = append(t.Binds, of(-99), of(-98))
	for _, x := range t.Binds {
		growType(x)
	}
	_ = append(t.Args, con(-97), con(-96))
	for _, x := range t.Args {
		grow(x)
	}
}

func growType(t kind.Type) {
	_ = append(t.Args, of(-99), of(-98))
	for _, x := range t.Args {
		growType(x)
	}
}

// rich: a term with binders, loose indexes and types with types within.
func rich() term.Term {
	return lam(bound(3,
		lam(meta(4, bound(0), lam(bound(2, con(7)), a())), of(1, of(0, b()))),
		con(2, bound(1), bound(6)),
		lam(bound(9), a(), of(0, a(), b())),
	), of(0, a()), b())
}
