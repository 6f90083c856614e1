package norm_test

import (
	"math"
	"slices"
	"strconv"
	"strings"

	"filigree/api"
	"filigree/budget"
	"filigree/kind"
	"filigree/norm"
	"filigree/raw"
	"filigree/term"
)

// The calls keep the signatures that the chapter lists.
var (
	_ func(term.World, []kind.Type, raw.Raw, *budget.Budget) (term.Term, api.Errno) = norm.Long
	_ func(term.Term, *budget.Budget, ...term.Term) (term.Term, api.Errno)          = norm.Put
	_ func(term.World, []kind.Type, raw.Raw) (term.Term, api.Errno)                 = norm.Of
	_ func(term.World, []kind.Type, raw.Raw) (int, api.Errno)                       = norm.Cost
	_ func(term.World, []kind.Type, term.Term, ...term.Term) bool                   = norm.Typed
)

const (
	// levels: as deep as the document lets anything be.
	levels = 1 << 16
	// work: as many units as one call counts.
	work = 100000
)

// of makes a type without the help of package kind.
func of(base int, args ...kind.Type) kind.Type { return kind.Type{Args: args, Base: base} }

func a() kind.Type { return of(0) }
func b() kind.Type { return of(1) }

// fn: a -> a.
func fn() kind.Type { return of(0, a()) }

// types: a list of them, as contexts are.
func types(l ...kind.Type) []kind.Type { return l }

// row: a type of that size, of base types.
func row(size int) kind.Type { return of(0, make([]kind.Type, size-1)...) }

// rows: so many times the type a.
func rows(n int) []kind.Type { return make([]kind.Type, n) }

func bound(i int) raw.Raw { return raw.Raw{Kind: 0, Index: i} }
func con(i int) raw.Raw   { return raw.Raw{Kind: 1, Index: i} }
func meta(i int) raw.Raw  { return raw.Raw{Kind: 2, Index: i} }

func lam(t kind.Type, kid raw.Raw) raw.Raw {
	return raw.Raw{Kind: 3, Type: t, Kids: []raw.Raw{kid}}
}

func app(f raw.Raw, l ...raw.Raw) raw.Raw {
	for _, x := range l {
		f = raw.Raw{Kind: 4, Kids: []raw.Raw{f, x}}
	}
	return f
}

// lams: r within so many Lams of a.
func lams(n int, r raw.Raw) raw.Raw {
	for range n {
		r = lam(a(), r)
	}
	return r
}

// times: r within so many applications of f.
func times(n int, f, r raw.Raw) raw.Raw {
	for range n {
		r = app(f, r)
	}
	return r
}

func head(k, i int) term.Head { return term.Head{Kind: k, Index: i} }

// tm: a term of these binders, head and arguments.
func tm(binds []kind.Type, h term.Head, args ...term.Term) term.Term {
	return term.Term{Binds: binds, Head: h, Args: args}
}

// v, c, m: terms of a head alone.
func v(i int, args ...term.Term) term.Term { return tm(nil, head(0, i), args...) }
func c(i int, args ...term.Term) term.Term { return tm(nil, head(1, i), args...) }
func m(i int, args ...term.Term) term.Term { return tm(nil, head(2, i), args...) }

// bind: t with these binders in the stead of its own.
func bind(t term.Term, l ...kind.Type) term.Term {
	t.Binds = l
	return t
}

// nested: t within so many terms of the constant 1.
func nested(n int, t term.Term) term.Term {
	for range n {
		t = c(1, t)
	}
	return t
}

// chain: t within so many applications of h, as it is there.
func chain(n int, h term.Head, t term.Term) term.Term {
	for range n {
		t = tm(nil, h, t)
	}
	return t
}

// wide: a constant with as many arguments as make that size.
func wide(size int) term.Term { return c(0, slices.Repeat([]term.Term{c(1)}, size-1)...) }

// doubled: a term that has one of less depth twice, in the same memory: it
// takes little memory, and is of a size of 2 to the depth, less 1.
func doubled(depth int) term.Term {
	t := c(0)
	for range depth - 1 {
		t = c(2, t, t)
	}
	return t
}

// small: a world of these constants: z, of a; s, of a -> a; p, of
// a -> a -> a; l, of (a -> a) -> a; k, of b -> a; and metavariables of a and of
// a -> a.
func small() term.World {
	return term.World{
		Bases:  2,
		Consts: types(a(), fn(), of(0, a(), a()), of(0, fn()), of(0, b())),
		Metas:  types(a(), fn()),
	}
}

// Its constants, as raw terms.
func z() raw.Raw { return con(0) }
func s() raw.Raw { return con(1) }
func p() raw.Raw { return con(2) }

// two: \f. \x. f (f x), on that type.
func two(t kind.Type) raw.Raw {
	return lam(of(t.Base, append([]kind.Type{t}, t.Args...)...), lam(t, app(bound(1), app(bound(1), bound(0)))))
}

// odd: numbers of any size.
func odd() []int {
	return []int{math.MinInt, math.MinInt + 1, math.MinInt32, -1001, -2, -1, 0, 1, 2, 3, 999, 1000, 1001, 1002, 1000000, 1000001, math.MaxInt32, math.MaxInt - 1, math.MaxInt}
}

// ofSize: all raw terms of that size, of these heads and Lams of these types.
func ofSize(size int, heads []raw.Raw, binds []kind.Type) []raw.Raw {
	if size == 1 {
		return heads
	}
	var all []raw.Raw
	for _, kid := range ofSize(size-1, heads, binds) {
		for _, t := range binds {
			all = append(all, lam(t, kid))
		}
	}
	for first := 1; first < size-1; first++ {
		for _, f := range ofSize(first, heads, binds) {
			for _, x := range ofSize(size-1-first, heads, binds) {
				all = append(all, app(f, x))
			}
		}
	}
	return all
}

// typed: all raw terms of at most that size, that have a type in the small
// world and that context.
func typed(ctx []kind.Type, size int) []raw.Raw {
	var all []raw.Raw
	heads := []raw.Raw{bound(0), bound(1), bound(2), con(0), con(1), con(3), meta(1)}
	for n := 1; n <= size; n++ {
		for _, r := range ofSize(n, heads, types(a(), fn())) {
			if _, e := raw.Infer(small(), ctx, r); e == api.OK {
				all = append(all, r)
			}
		}
	}
	return all
}

// some: raw terms with a type in the small world, with much to put.
func some() []raw.Raw {
	f2 := of(0, fn(), a())
	return []raw.Raw{
		app(two(a()), s(), z()),
		app(two(a()), app(two(a()), s()), z()),
		app(two(fn()), two(a()), s(), z()),
		app(two(f2), two(fn()), two(a()), s(), z()),
		app(two(fn()), two(a()), meta(1)),
		lam(fn(), app(two(a()), bound(0))),
		lam(a(), app(lam(fn(), app(bound(0), app(bound(0), bound(1)))), app(p(), bound(0)))),
		lam(a(), app(lam(a(), app(con(3), lam(a(), app(p(), bound(1), bound(2))))), app(s(), bound(0)))),
		lam(a(), lam(b(), app(lam(of(0, fn()), app(bound(0), lam(a(), app(p(), bound(0), bound(3))))), con(3)))),
		app(lam(of(0, a(), a()), lam(a(), app(bound(1), bound(0)))), p()),
		app(lam(of(0, a(), a()), lam(a(), lam(a(), app(bound(2), bound(0), bound(1))))), p()),
		lam(of(0, of(0, fn())), app(bound(0), lam(fn(), app(bound(0), app(lam(fn(), app(bound(0), z())), bound(0)))))),
		lam(of(0, of(0, fn())), bound(0)),
		app(lam(of(0, fn()), app(bound(0), lam(a(), app(bound(1), lam(a(), app(p(), bound(0), bound(1))))))), con(3)),
		app(lam(of(0, fn()), app(bound(0), lam(a(), app(bound(1), lam(a(), app(p(), bound(0), bound(1))))))), lam(fn(), app(bound(0), app(bound(0), z())))),
	}
}

// codeType: t, told so that no two types are told the same.
func codeType(t kind.Type) string {
	var s strings.Builder
	putType(&s, t)
	return s.String()
}

func putType(s *strings.Builder, t kind.Type) {
	s.WriteString("[")
	for _, x := range t.Args {
		putType(s, x)
	}
	s.WriteString(strconv.Itoa(t.Base) + "]")
}

// code: t, told so that no two terms are told the same; it doesn't go through
// the packages.
func code(t term.Term) string {
	var s strings.Builder
	putTerm(&s, t)
	return s.String()
}

func putTerm(s *strings.Builder, t term.Term) {
	s.WriteString("(")
	for _, x := range t.Binds {
		putType(s, x)
	}
	if t.Head.Kind < 0 || t.Head.Kind > 2 {
		s.WriteString(strconv.Itoa(t.Head.Kind) + ":")
	} else {
		s.WriteByte("vcm"[t.Head.Kind])
	}
	s.WriteString(strconv.Itoa(t.Head.Index))
	for _, x := range t.Args {
		putTerm(s, x)
	}
	s.WriteString(")")
}

func same(x, y term.Term) bool { return code(x) == code(y) }

// zero: whether t is the zero term.
func zero(t term.Term) bool {
	return len(t.Binds) == 0 && t.Head == term.Head{} && len(t.Args) == 0
}

// codeRaw: r, every field of it, told so that no two raw terms are told the
// same.
func codeRaw(r raw.Raw) string {
	l := "<" + strconv.Itoa(r.Kind) + ":" + strconv.Itoa(r.Index)
	if r.Kind == raw.Lam || len(r.Type.Args) != 0 || r.Type.Base != 0 {
		l += codeType(r.Type)
	}
	for _, x := range r.Kids {
		l += codeRaw(x)
	}
	return l + ">"
}

func codeWorld(w term.World) string {
	return codeType(of(w.Bases, of(0, w.Consts...), of(0, w.Metas...)))
}

// A variable is what a binder binds, known by its address.
type variable struct{ of kind.Type }

// A named one is a term whose variables point at what they are, not by how
// many are between: what is put for one needs no change wherever it stands.
type named struct {
	binds []*variable
	at    *variable // nil: the head isn't bound within
	head  term.Head // a loose index as it is seen from outside of all
	args  []*named
}

// name: t with names, where these variables are around it.
func name(t term.Term, around []*variable) *named {
	n := &named{head: t.Head}
	for _, x := range t.Binds {
		n.binds = append(n.binds, &variable{x})
	}
	around = slices.Concat(around, n.binds)
	if i := t.Head.Index; t.Head.Kind == term.Bound && i >= len(around) {
		n.head.Index = i - len(around)
	} else if t.Head.Kind == term.Bound && i >= 0 {
		n.at = around[len(around)-1-i]
	}
	for _, x := range t.Args {
		n.args = append(n.args, name(x, around))
	}
	return n
}

// unname: n with indexes, where these variables are around it.
func unname(n *named, around []*variable) term.Term {
	t := term.Term{Head: n.head}
	for _, x := range n.binds {
		t.Binds = append(t.Binds, x.of)
	}
	around = slices.Concat(around, n.binds)
	if n.at != nil {
		t.Head = head(0, len(around)-1-slices.Index(around, n.at))
	} else if n.head.Kind == term.Bound && n.head.Index >= 0 {
		t.Head.Index += len(around)
	}
	for _, x := range n.args {
		t.Args = append(t.Args, unname(x, around))
	}
	return t
}

// renamed: n with variables of its own.
func renamed(n *named, to map[*variable]*variable) *named {
	made := &named{at: n.at, head: n.head}
	for _, x := range n.binds {
		to[x] = &variable{x.of}
		made.binds = append(made.binds, to[x])
	}
	if own, ok := to[n.at]; ok {
		made.at = own
	}
	for _, x := range n.args {
		made.args = append(made.args, renamed(x, to))
	}
	return made
}

// A model puts and finds forms as the chapter words it, by names. It panics
// with the error.
type model struct{ left, counted int }

func (d *model) unit() {
	d.counted++
	if d.counted > work {
		panic(api.ErrLong)
	}
	if d.left == 0 {
		panic(api.ErrFuel)
	}
	d.left--
}

// put: t with these for its first variables.
func (d *model) put(t *named, args []*named) *named {
	at := map[*variable]*named{}
	for i, x := range args {
		at[t.binds[i]] = x
	}
	made := d.body(t, at)
	made.binds = t.binds[len(args):]
	return made
}

func (d *model) body(t *named, at map[*variable]*named) *named {
	d.unit()
	made := &named{at: t.at, head: t.head}
	for _, x := range t.args {
		arg := d.body(x, at)
		arg.binds = x.binds
		made.args = append(made.args, arg)
	}
	u, ok := at[t.at]
	if !ok {
		return made
	}
	if len(u.binds) != len(made.args) {
		panic(api.ErrArg)
	}
	return d.put(renamed(u, map[*variable]*variable{}), made.args)
}

// eta: the long form of that head or variable, of that type.
func (d *model) eta(h term.Head, x *variable, t kind.Type) *named {
	d.unit()
	n := &named{at: x, head: h}
	for _, arg := range t.Args {
		n.binds = append(n.binds, &variable{arg})
	}
	for i, arg := range t.Args {
		n.args = append(n.args, d.eta(term.Head{}, n.binds[i], arg))
	}
	return n
}

// form: that of a raw term that has a type, where these variables are around
// it, of which so many are its context's.
func (d *model) form(w term.World, around []*variable, context int, r raw.Raw) *named {
	h := head(r.Kind, r.Index)
	switch r.Kind {
	case raw.Bound:
		i := len(around) - 1 - r.Index
		if i < context {
			return d.eta(head(0, context-1-i), nil, around[i].of)
		}
		return d.eta(h, around[i], around[i].of)
	case raw.Const:
		return d.eta(h, nil, w.Consts[r.Index])
	case raw.Meta:
		return d.eta(h, nil, w.Metas[r.Index])
	case raw.Lam:
		x := &variable{r.Type}
		n := d.form(w, append(slices.Clone(around), x), context, r.Kids[0])
		n.binds = append([]*variable{x}, n.binds...)
		return n
	}
	f := d.form(w, around, context, r.Kids[0])
	return d.put(f, []*named{d.form(w, around, context, r.Kids[1])})
}

// caught: what make tells, or the error with which it panics.
func caught(make func() *named) (t term.Term, e api.Errno) {
	defer func() {
		if x := recover(); x != nil {
			t, e = term.Term{}, x.(api.Errno)
		}
	}()
	return unname(make(), nil), api.OK
}

// put: what Put tells of these by the chapter's words, with so many units, and
// how many are left.
func put(t term.Term, units int, args ...term.Term) (term.Term, api.Errno, int) {
	if len(t.Binds) < len(args) {
		return term.Term{}, api.ErrArg, units
	}
	var l []*named
	for _, x := range args {
		l = append(l, name(x, nil))
	}
	d := &model{left: units}
	made, e := caught(func() *named { return d.put(name(t, nil), l) })
	return made, e, d.left
}

// form: the form of a raw term that has a type there, by the chapter's words,
// and what it costs.
func form(w term.World, ctx []kind.Type, r raw.Raw) (term.Term, api.Errno, int) {
	var around []*variable
	for _, x := range ctx {
		around = append(around, &variable{x})
	}
	d := &model{left: math.MaxInt}
	made, e := caught(func() *named { return d.form(w, around, len(ctx), r) })
	return made, e, d.counted
}

// stepped: the form of a raw term that has a type there, another way: by steps,
// as long as there are some, and only then made long.
func stepped(w term.World, ctx []kind.Type, r raw.Raw) term.Term {
	for {
		made, ok := raw.Step(r)
		if !ok {
			return stretch(w, ctx, r)
		}
		r = made
	}
}

// stretch: the long form of a raw term without steps.
func stretch(w term.World, ctx []kind.Type, r raw.Raw) term.Term {
	var binds []kind.Type
	for r.Kind == raw.Lam {
		binds, r = append(binds, r.Type), r.Kids[0]
	}
	u, _ := raw.Infer(w, slices.Concat(ctx, binds), r)
	for _, x := range u.Args {
		binds, r = append(binds, x), app(raised(r), bound(0))
	}
	within := slices.Concat(ctx, binds)
	var args []term.Term
	for ; r.Kind == raw.App; r = r.Kids[0] {
		args = append(args, stretch(w, within, r.Kids[1]))
	}
	slices.Reverse(args)
	return tm(binds, head(r.Kind, r.Index), args...)
}

// raised: r as it is within one binder more: as what Subst brings there.
func raised(r raw.Raw) raw.Raw { return raw.Subst(lam(a(), bound(1)), r).Kids[0] }
