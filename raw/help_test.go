package raw_test

import (
	"math"
	"strconv"
	"strings"

	"filigree/api"
	"filigree/kind"
	"filigree/raw"
	"filigree/term"
)

// The calls keep the signatures that the chapter lists.
var (
	_ func(raw.Raw) bool                                            = raw.Right
	_ func(raw.Raw) int                                             = raw.Size
	_ func(raw.Raw, raw.Raw) bool                                   = raw.Equal
	_ func(int, int) raw.Raw                                        = raw.Head
	_ func(raw.Raw, ...kind.Type) raw.Raw                           = raw.Bind
	_ func(raw.Raw, ...raw.Raw) raw.Raw                             = raw.Call
	_ func(term.World, []kind.Type, raw.Raw) (kind.Type, api.Errno) = raw.Infer
	_ func(raw.Raw, raw.Raw) raw.Raw                                = raw.Subst
	_ func(raw.Raw) (raw.Raw, bool)                                 = raw.Step
	_ func(raw.Raw) int                                             = raw.Loose
	_ func(term.Term) raw.Raw                                       = raw.From
	_                                                               = raw.Raw{Kind: 0, Type: kind.Type{}, Index: 0, Kids: []raw.Raw{}}
	_ int8                                                          = raw.Bound + raw.Const + raw.Meta + raw.Lam + raw.App
)

// levels: as deep as the document lets anything be.
const levels = 1 << 16

// of makes a type without the help of package kind.
func of(base int, args ...kind.Type) kind.Type { return kind.Type{Args: args, Base: base} }

func a() kind.Type { return of(0) }
func b() kind.Type { return of(1) }

// types: a list of them, as contexts are.
func types(l ...kind.Type) []kind.Type { return l }

// row: a type of that size, of base types.
func row(size int) kind.Type { return of(0, make([]kind.Type, size-1)...) }

// stack: a type of that depth and size.
func stack(depth int) kind.Type {
	t := a()
	for range depth - 1 {
		t = of(0, t)
	}
	return t
}

func bound(i int) raw.Raw { return raw.Raw{Kind: 0, Index: i} }
func con(i int) raw.Raw   { return raw.Raw{Kind: 1, Index: i} }
func meta(i int) raw.Raw  { return raw.Raw{Kind: 2, Index: i} }

func lam(t kind.Type, kid raw.Raw) raw.Raw {
	return raw.Raw{Kind: 3, Type: t, Kids: []raw.Raw{kid}}
}

func app(f, x raw.Raw) raw.Raw { return raw.Raw{Kind: 4, Kids: []raw.Raw{f, x}} }

// with: r with these kids, however many it should have.
func with(r raw.Raw, kids ...raw.Raw) raw.Raw {
	r.Kids = kids
	return r
}

// lams: r within so many Lams of a.
func lams(n int, r raw.Raw) raw.Raw {
	for range n {
		r = lam(a(), r)
	}
	return r
}

// leftward: r, applied to so many constants.
func leftward(n int, r raw.Raw) raw.Raw {
	for range n {
		r = app(r, con(1))
	}
	return r
}

// rightward: r as the argument of so many constants, one after another.
func rightward(n int, r raw.Raw) raw.Raw {
	for range n {
		r = app(con(1), r)
	}
	return r
}

// doubled: a raw term that has one of less depth twice, in the same memory: it
// takes little memory, and is of a size of 2 to the depth, less 1.
func doubled(depth int) raw.Raw {
	r := con(0)
	for range depth - 1 {
		r = app(r, r)
	}
	return r
}

// bush: a right raw term of that size, which is odd, and not deep.
func bush(size int) raw.Raw {
	if size == 1 {
		return con(0)
	}
	first := (size - 1) / 2
	if first%2 == 0 {
		first--
	}
	return app(bush(first), bush(size-1-first))
}

// odd: numbers of any size.
func odd() []int {
	return []int{math.MinInt, math.MinInt + 1, math.MinInt32, -1001, -2, -1, 0, 1, 2, 3, 999, 1000, 1001, 1002, 1000000, 1000001, math.MaxInt32, math.MaxInt - 1, math.MaxInt}
}

// ofSize: all raw terms of that size, of these heads and Lams of these types.
func ofSize(size int, heads []raw.Raw, binds []kind.Type) []raw.Raw {
	if size == 1 {
		return heads
	}
	var all []raw.Raw
	for _, kid := range ofSize(size-1, heads, binds) {
		for _, t := range binds {
			all = append(all, lam(t, kid))
		}
	}
	for first := 1; first < size-1; first++ {
		for _, f := range ofSize(first, heads, binds) {
			for _, x := range ofSize(size-1-first, heads, binds) {
				all = append(all, app(f, x))
			}
		}
	}
	return all
}

// upTo: all raw terms of at most that size, of these heads and Lams of these
// types.
func upTo(size int, heads []raw.Raw, binds ...kind.Type) []raw.Raw {
	var all []raw.Raw
	for n := 1; n <= size; n++ {
		all = append(all, ofSize(n, heads, binds)...)
	}
	return all
}

// some: small raw terms of many kinds.
func some() []raw.Raw {
	return upTo(5, []raw.Raw{bound(0), bound(1), bound(2), con(0), meta(1)}, a(), of(0, a()))
}

// wrong: raw terms that aren't right.
func wrong() []raw.Raw {
	return []raw.Raw{
		with(bound(0), con(1)),
		with(bound(2), app(lam(a(), bound(0)), con(1)), bound(7)),
		with(con(0), bound(3)),
		with(meta(0), lam(a(), with(bound(1), bound(9)))),
		{Kind: raw.Lam},
		{Kind: raw.Lam, Type: of(0, a()), Index: 5, Kids: []raw.Raw{bound(1), bound(4), app(lam(a(), bound(1)), bound(2))}},
		{Kind: raw.App},
		{Kind: raw.App, Kids: []raw.Raw{lam(a(), bound(0))}},
		{Kind: raw.App, Type: of(1, b()), Index: -3, Kids: []raw.Raw{lam(a(), bound(0)), con(1), con(2)}},
		{Kind: raw.App, Kids: []raw.Raw{{Kind: raw.Lam}, con(1)}},
		{Kind: raw.App, Kids: []raw.Raw{{Kind: raw.Lam, Kids: []raw.Raw{bound(0), bound(1)}}, con(1)}},
		{Kind: 5, Index: 2},
		{Kind: -1, Type: of(0, b()), Index: 2, Kids: []raw.Raw{bound(2), app(lam(a(), bound(0)), con(3))}},
		{Kind: math.MaxInt, Index: math.MinInt, Kids: []raw.Raw{bound(0)}},
	}
}

// codeType: t, told so that no two types are told the same.
func codeType(t kind.Type) string {
	var s strings.Builder
	putType(&s, t)
	return s.String()
}

func putType(s *strings.Builder, t kind.Type) {
	s.WriteString("[")
	for _, x := range t.Args {
		putType(s, x)
	}
	s.WriteString(strconv.Itoa(t.Base) + "]")
}

// code: r, every field of it, told so that no two raw terms are told the same;
// it doesn't go through the package.
func code(r raw.Raw) string {
	var s strings.Builder
	put(&s, r)
	return s.String()
}

func put(s *strings.Builder, r raw.Raw) {
	s.WriteString("(" + strconv.Itoa(r.Kind) + ":" + strconv.Itoa(r.Index))
	if len(r.Type.Args) != 0 || r.Type.Base != 0 || r.Kind == raw.Lam {
		putType(s, r.Type)
	}
	for _, x := range r.Kids {
		put(s, x)
	}
	s.WriteString(")")
}

func same(x, y raw.Raw) bool { return code(x) == code(y) }

// zeroType: whether t is the zero type.
func zeroType(t kind.Type) bool { return t.Base == 0 && len(t.Args) == 0 }

// twinType: t in other memory.
func twinType(t kind.Type) kind.Type {
	c := kind.Type{Base: t.Base}
	for _, x := range t.Args {
		c.Args = append(c.Args, twinType(x))
	}
	return c
}

// twin: r in other memory, without the package's help.
func twin(r raw.Raw) raw.Raw {
	c := raw.Raw{Kind: r.Kind, Type: twinType(r.Type), Index: r.Index}
	for _, x := range r.Kids {
		c.Kids = append(c.Kids, twin(x))
	}
	return c
}

// spoilTypes changes all of l that it shares with others of the same memory.
func spoilTypes(l []kind.Type) {
	for i := range l {
		spoilTypes(l[i].Args)
		l[i] = of(-99, of(-98))
	}
}

// spoil changes all of r that it shares with others of the same memory.
func spoil(r raw.Raw) {
	spoilTypes(r.Type.Args)
	for i := range r.Kids {
		spoil(r.Kids[i])
		r.Kids[i] = lam(of(-97), con(-96))
	}
}

// grow puts something behind each list of r, where there is room.
func grow(r raw.Raw) {
	growType(r.Type)
	_ = append(r.Kids, con(-95), con(-94))
	for _, x := range r.Kids {
		grow(x)
	}
}

func growType(t kind.Type) {
	_ = append(t.Args, of(-99), of(-98))
	for _, x := range t.Args {
		growType(x)
	}
}

// rich: a raw term with steps, loose indexes and types with types within.
func rich() raw.Raw {
	f := lam(of(0, a()), lam(b(), app(app(bound(1), bound(3)), lam(of(1, of(0, b())), bound(2)))))
	return lam(of(1, a()), app(app(f, lam(a(), app(meta(2), bound(2)))), app(lam(b(), bound(0)), con(4))))
}
