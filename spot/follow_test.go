package spot_test

import (
	"slices"
	"testing"

	"filigree/api"
	"filigree/kind"
	"filigree/spot"
	"filigree/term"
)

func TestP10_5WhatIsAtAPathPutBackChangesNothing(t *testing.T) {
	for _, x := range ones() {
		for path, y := range spot.Each(x) {
			at, _, e := spot.At(x, path...)
			if e != api.OK || !term.Equal(at, y) {
				t.Fatalf("%v at %v: %v, %d; Each gives %v", x, path, at, e, y)
			}
			body, _, _ := spot.Open(at, len(at.Binds))
			if got, e := spot.Replace(x, body, path...); e != api.OK || !term.Equal(got, x) {
				t.Fatalf("%v at %v: %v, %d", x, path, got, e)
			}
			if got, e := spot.Replace(x, term.Body(at), path...); e != api.OK || !term.Equal(got, x) {
				t.Fatalf("%v at %v, its body: %v, %d", x, path, got, e)
			}
		}
	}
}

// What is within what is at a path is at the path behind that.
func TestP10_5PathsBehindPaths(t *testing.T) {
	for _, x := range append(ofSize(3), mixed(), c(0, mixed(), nested(4, mixed()), example())) {
		for front, y := range spot.Each(x) {
			_, outer, _ := spot.At(x, front...)
			for back := range spot.Each(y) {
				path := slices.Concat(front, back)
				z, inner, _ := spot.At(y, back...)
				got, around, e := spot.At(x, path...)
				want := slices.Concat(outer[:len(outer)-len(y.Binds)], inner)
				if e != api.OK || !term.Equal(got, z) || !sameTypes(around, want) || !spot.Under(path, front...) {
					t.Fatalf("%v at %v behind %v: %v, %v, %d", x, back, front, got, around, e)
				}
			}
		}
	}
}

func TestP10_5AllPathsRise(t *testing.T) {
	for _, x := range ones() {
		all := spot.All(x)
		for i, path := range all {
			for k, other := range all {
				if got := spot.Compare(all[i], all[k]); (got < 0) != (i < k) || (got > 0) != (i > k) {
					t.Fatalf("%v: %v, %v: %d", x, path, other, got)
				}
			}
			under := slices.DeleteFunc(slices.Clone(all), func(other []int) bool { return !spot.Under(other, path...) })
			if y, _, _ := spot.At(x, path...); len(under) != term.Size(y) {
				t.Fatalf("%v: under %v: %v", x, path, under)
			}
		}
		if len(all) != term.Size(x) {
			t.Fatalf("%v: %d", x, len(all))
		}
	}
}

func TestP10_5OpenUndoesClose(t *testing.T) {
	for _, x := range ones() {
		for _, l := range append(fronts(), []kind.Type{high(), a(), fn()}) {
			closed := spot.Close(x, l)
			if got, binds, e := spot.Open(closed, len(l)); e != api.OK || !term.Equal(got, x) || !sameTypes(binds, l) {
				t.Fatalf("%v with %v: %v, %v, %d", x, l, got, binds, e)
			}
			for n := range len(closed.Binds) + 1 {
				open, binds, _ := spot.Open(closed, n)
				if got := spot.Close(open, binds); len(binds) != n || !term.Equal(got, closed) {
					t.Fatalf("%v without %d: %v, %v", closed, n, open, binds)
				}
			}
		}
	}
}

// small: a world of these constants: z, of a; s, of a -> a; p, of a -> a -> a;
// l, of (a -> a) -> a; k, of a -> b; and metavariables of a and of
// (a -> a) -> b.
func small() term.World {
	return term.World{
		Bases:  2,
		Consts: []kind.Type{a(), fn(), kind.Of(0, a(), a()), kind.Of(0, fn()), kind.Of(1, a())},
		Metas:  []kind.Type{a(), kind.Of(1, fn())},
	}
}

// ofType: the terms of that type, of at most that depth, in the small world
// and that context.
func ofType(ctx []kind.Type, u kind.Type, depth int) []term.Term {
	if depth == 0 {
		return nil
	}
	within := slices.Concat(ctx, u.Args)
	var all []term.Term
	for k := range 3 {
		for i := range 8 {
			of, e := term.HeadType(small(), within, term.Head{Kind: k, Index: i})
			if e != api.OK || of.Base != u.Base {
				continue
			}
			for _, args := range ofTypes(within, of.Args, depth-1) {
				all = append(all, bind(tm(k, i, args), u.Args...))
			}
		}
	}
	return all
}

// ofTypes: the lists of terms of these types, so, too.
func ofTypes(ctx, l []kind.Type, depth int) [][]term.Term {
	if len(l) == 0 {
		return [][]term.Term{nil}
	}
	var all [][]term.Term
	for _, x := range ofType(ctx, l[0], depth) {
		for _, rest := range ofTypes(ctx, l[1:], depth) {
			all = append(all, append([]term.Term{x}, rest...))
		}
	}
	return all
}

// What is replaced by a body that is typed in the context at the path, with
// the binders that At tells, is typed as before; by one of another base it
// isn't, nor by one that isn't typed there.
func TestP10_5WhatIsReplacedIsTypedAsBefore(t *testing.T) {
	w := small()
	typed, others := 0, 0
	for _, ctx := range [][]kind.Type{nil, {fn(), b()}} {
		for _, of := range []kind.Type{a(), b(), fn(), kind.Of(1, b(), fn())} {
			all := ofType(ctx, of, 3)
			for k := 0; k < len(all); k += 1 + len(all)/100 {
				x := all[k]
				for path, y := range spot.Each(x) {
					_, around, _ := spot.At(x, path...)
					within := slices.Concat(ctx, around)
					if e := term.Check(w, within, term.Body(y), kind.Of(base(t, within, y))); e != api.OK {
						t.Fatalf("%v at %v: %v, %d", x, path, around, e)
					}
					for i, u := range []kind.Type{a(), b()} {
						bodies := ofType(within, u, 2)
						for n := 0; n < len(bodies); n += 1 + len(bodies)/20 {
							got, e := spot.Replace(x, bodies[n], path...)
							is := term.Check(w, ctx, got, of)
							if e != api.OK || (is == api.OK) != (i == base(t, within, y)) {
								t.Fatalf("%v at %v by %v: %v, %d", x, path, bodies[n], got, is)
							}
							if is == api.OK {
								typed++
							} else {
								others++
							}
						}
					}
					got, _ := spot.Replace(x, v(len(within)), path...)
					if e := term.Check(w, ctx, got, of); e != api.ErrType {
						t.Fatalf("%v at %v by a variable that isn't there: %d", x, path, e)
					}
				}
			}
		}
	}
	if typed < 5000 || others < 5000 {
		t.Error("too few:", typed, others)
	}
}

// base: the base of y's head in the context at it.
func base(t *testing.T, within []kind.Type, y term.Term) int {
	of, e := term.HeadType(small(), within, y.Head)
	if e != api.OK {
		t.Fatal(y, e)
	}
	return of.Base
}
