package subst_test

import (
	"slices"
	"testing"

	"filigree/api"
	"filigree/budget"
	"filigree/kind"
	"filigree/norm"
	"filigree/raw"
	"filigree/subst"
	"filigree/term"
)

// fronts: the lists of binders of terms that aren't typed.
func fronts() [][]kind.Type { return [][]kind.Type{nil, {a()}, {fn(), b()}} }

// ofSize: all terms of that size, of few heads, of one or two arguments or
// none, and of at most two binders.
func ofSize(size int) []term.Term {
	var all []term.Term
	for _, args := range argsOf(size - 1) {
		for _, x := range []term.Term{v(0), v(1), v(3), c(0), m(0), m(1), m(2)} {
			for _, l := range fronts() {
				x.Args = args
				all = append(all, bind(x, l...))
			}
		}
	}
	return all
}

// argsOf: all lists of at most two terms that are of that size together.
func argsOf(size int) [][]term.Term {
	if size == 0 {
		return [][]term.Term{nil}
	}
	var all [][]term.Term
	for _, x := range ofSize(size) {
		all = append(all, []term.Term{x})
	}
	for n := 1; n < size; n++ {
		for _, x := range ofSize(n) {
			for _, y := range ofSize(size - n) {
				all = append(all, []term.Term{x, y})
			}
		}
	}
	return all
}

// upTo: all such terms of at most that size.
func upTo(size int) []term.Term {
	var all []term.Term
	for n := range size {
		all = append(all, ofSize(n+1)...)
	}
	return all
}

// opened: t, which stands within so many binders, with s's metavariables as
// variables that are bound outside of these.
func opened(s subst.Subst, t term.Term, binders int) term.Term {
	binders += len(t.Binds)
	made := bind(tm(t.Head.Kind, t.Head.Index, nil), t.Binds...)
	i := slices.IndexFunc(s, func(p subst.Pair) bool { return t.Head == m(p.Meta).Head })
	switch {
	case i >= 0:
		made.Head = v(binders + len(s) - 1 - i).Head
	case t.Head.Kind == term.Bound && t.Head.Index >= binders:
		made.Head.Index += len(s)
	}
	for _, x := range t.Args {
		made.Args = append(made.Args, opened(s, x, binders))
	}
	return made
}

// byPut: what Apply tells of these, as far as no limit is met, and how many
// units are left: t's metavariables become variables of its own, and s's terms
// are put for them (chapter 8).
func byPut(s subst.Subst, t term.Term, units int) (term.Term, api.Errno, int) {
	var args []term.Term
	for _, p := range s {
		args = append(args, p.Term)
	}
	f := opened(s, t, 0)
	b := budget.New(units)
	made, e := norm.Put(bind(f, slices.Concat(rows(len(s)), f.Binds)...), b, args...)
	return made, e, b.Left()
}

// hold tells whether Apply tells the same as byPut.
func hold(t *testing.T, s subst.Subst, x term.Term, units int) api.Errno {
	want, e, left := byPut(s, x, units)
	b := budget.New(units)
	got, is := subst.Apply(s, x, b)
	if is != e || !term.Equal(got, want) || b.Left() != left || b.Dry() != (e == api.ErrFuel) {
		t.Fatalf("%v in %v with %d: %v, %d, %d are left; want %v, %d, %d", s, x, units, got, is, b.Left(), want, e, left)
	}
	return e
}

func TestP9_3ApplyOfSmallOnes(t *testing.T) {
	met := map[api.Errno]int{}
	terms := upTo(2)
	for k, x := range upTo(3) {
		for i := k % 43; i < len(terms); i += 43 {
			y, z := terms[i], terms[(i*5+k)%len(terms)]
			met[hold(t, list(y), x, 60)]++
			met[hold(t, list(y, z), x, 60)]++
			met[hold(t, subst.Subst{{Meta: 1, Term: z}, {Meta: 2, Term: y}}, x, (i+k)%9)]++
		}
	}
	for _, e := range []api.Errno{api.OK, api.ErrArg, api.ErrFuel} {
		if met[e] < 1000 {
			t.Errorf("error %d was met %d times", e, met[e])
		}
	}
}

// Terms that are put where places have the arguments, for functions of one and
// of two.
func TestP9_3ApplyOfFunctions(t *testing.T) {
	fits := 0
	var unary, binary []term.Term
	for _, x := range upTo(3) {
		switch len(x.Binds) {
		case 1:
			unary = append(unary, x)
		case 2:
			binary = append(binary, x)
		}
	}
	for i, f := range unary {
		s := list(f, binary[i*7%len(binary)], v(i%5))
		for _, x := range []term.Term{
			bind(m(0, bind(m(1, v(1), m(2)), b())), a()),
			bind(m(1, bind(m(0, bind(v(0), a())), b()), m(0, bind(v(3), b()))), a(), b()),
			m(0, bind(m(0, bind(m(0, c(4)), a())), a())),
			c(2, bind(m(1, bind(v(1), b()), bind(m(2), b())), a()), m(1, m(2), v(7))),
		} {
			if hold(t, s, x, 2000) == api.OK {
				fits++
			}
		}
	}
	if fits < 3000 {
		t.Error("too few fit:", fits)
	}
}

// ofType: terms of that type, of at most that depth, in the small world and
// that context, but not too many of them.
func ofType(ctx []kind.Type, u kind.Type, depth int) []term.Term {
	if depth == 0 {
		return nil
	}
	within := slices.Concat(ctx, u.Args)
	var all []term.Term
	for k := range 3 {
		for i := range 6 {
			of, e := term.HeadType(small(), within, term.Head{Kind: k, Index: i})
			if e != api.OK || of.Base != u.Base {
				continue
			}
			for _, args := range argsOfTypes(within, of.Args, depth-1) {
				all = append(all, bind(tm(k, i, args), u.Args...))
			}
		}
	}
	return few(all, 150)
}

// argsOfTypes: lists of terms of these types, but not too many of them.
func argsOfTypes(ctx, l []kind.Type, depth int) [][]term.Term {
	all := [][]term.Term{nil}
	for _, u := range l {
		var longer [][]term.Term
		terms := ofType(ctx, u, depth)
		for _, args := range all {
			for _, x := range terms {
				longer = append(longer, append(slices.Clone(args), x))
			}
		}
		all = few(longer, 40)
	}
	return all
}

// few: at most that many of l, from everywhere in it.
func few[T any](l []T, most int) []T {
	if len(l) <= most {
		return l
	}
	var made []T
	for i := range most {
		made = append(made, l[i*len(l)/most])
	}
	return made
}

// around: the context of what is typed here.
func around() []kind.Type { return []kind.Type{a(), fn()} }

// typed: terms of many types in the small world and the context.
func typed() []term.Term {
	var all []term.Term
	for _, u := range append(small().Metas, kind.Of(0, fn(), a()), kind.Of(1, a()), b()) {
		all = append(all, ofType(around(), u, 4)...)
	}
	return all
}

// substs: typed substitutions in the small world and the context, each of some
// of the metavariables.
func substs() []subst.Subst {
	all := make([]subst.Subst, 60)
	for n, u := range small().Metas {
		l := ofType(around(), u, 3)
		for i := range all {
			if i>>n&1 == 0 {
				all[i] = append(all[i], subst.Pair{Meta: n, Term: l[(i*31+n*7)%len(l)]})
			}
		}
	}
	return all
}

// typeOf: the type of a term that has one.
func typeOf(t *testing.T, x term.Term) kind.Type {
	u, e := term.TypeOf(small(), around(), x)
	if e != api.OK || term.Check(small(), around(), x, u) != api.OK {
		t.Fatalf("%v isn't typed: %d", x, e)
	}
	return u
}

// put: r, within so many binders, with s's terms in the places of its
// metavariables, as raw terms.
func put(s subst.Subst, r raw.Raw, binders int) raw.Raw {
	if u, ok := subst.Get(s, r.Index); ok && r.Kind == raw.Meta {
		u, e := term.Shift(u, binders, 0)
		if e != api.OK {
			panic(e)
		}
		return raw.From(u)
	}
	if r.Kind == raw.Lam {
		binders++
	}
	r.Kids = slices.Clone(r.Kids)
	for i, x := range r.Kids {
		r.Kids[i] = put(s, x, binders)
	}
	return r
}

// What is typed stays typed, and is the form (chapter 8) of the raw term that
// has the terms in their places.
func TestP9_5WhatIsTypedStaysTyped(t *testing.T) {
	terms, changed := typed(), 0
	for i, s := range substs() {
		if subst.Check(small(), around(), s) != api.OK {
			t.Fatal(s)
		}
		for k, x := range terms {
			if k%5 != i%5 {
				continue
			}
			got, e := subst.Apply(s, x, budget.New(work))
			if e != api.OK || term.Check(small(), around(), got, typeOf(t, x)) != api.OK {
				t.Fatalf("%v in %v: %v, %d", s, x, got, e)
			}
			want, e := norm.Of(small(), around(), put(s, raw.From(x), 0))
			if e != api.OK || !term.Equal(got, want) {
				t.Fatalf("%v in %v: %v; want %v, %d", s, x, got, want, e)
			}
			if !term.Equal(got, x) {
				changed++
			}
		}
	}
	if changed < 1000 {
		t.Error("too few were changed:", changed)
	}
}

func TestP9_5WhereNoneOfItsMetavariablesIs(t *testing.T) {
	for _, x := range append(upTo(3), typed()...) {
		there := term.Metas(x)
		s := subst.Without(list(c(9), bind(c(9), a()), v(0), c(8, c(9)), c(9)), there...)
		b := budget.New(nodes)
		if got, e := subst.Apply(s, x, b); e != api.OK || !term.Equal(got, x) || b.Used() != term.Size(x) {
			t.Fatalf("%v in %v: %v, %d", s, x, got, e)
		}
	}
}

func TestP9_5ComposeIsOneBehindTheOther(t *testing.T) {
	terms, all, changed := typed(), substs(), 0
	apply := func(s subst.Subst, x term.Term) term.Term {
		got, e := subst.Apply(s, x, budget.New(work))
		if e != api.OK {
			t.Fatalf("%v in %v: %d", s, x, e)
		}
		return got
	}
	for i, s := range all {
		for j, next := range all {
			both, e := subst.Compose(s, next, budget.New(work))
			if e != api.OK || subst.Check(small(), around(), both) != api.OK {
				t.Fatalf("%v and %v: %v, %d", s, next, both, e)
			}
			for k := (i + j) % 97; k < len(terms); k += 97 {
				want := apply(next, apply(s, terms[k]))
				if got := apply(both, terms[k]); !term.Equal(got, want) {
					t.Fatalf("%v and %v in %v: %v; want %v", s, next, terms[k], got, want)
				}
				if !term.Equal(want, terms[k]) {
					changed++
				}
			}
		}
	}
	if changed < 5000 {
		t.Error("too few were changed:", changed)
	}
}
