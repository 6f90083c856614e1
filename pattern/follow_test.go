package pattern_test

import (
	"slices"
	"testing"

	"filigree/api"
	"filigree/budget"
	"filigree/kind"
	"filigree/norm"
	"filigree/pattern"
	"filigree/spot"
	"filigree/term"
)

// small: a world of these constants: z, of a; s, of a -> a; l, of
// (a -> a) -> a; k, of a -> b; p, of a -> a -> a; and metavariables of a, of
// a -> a -> a and of (a -> a) -> a -> b.
func small() term.World {
	return term.World{
		Bases:  2,
		Consts: []kind.Type{a(), fn(), kind.Of(0, fn()), kind.Of(1, a()), kind.Of(0, a(), a())},
		Metas:  []kind.Type{a(), kind.Of(0, a(), a()), kind.Of(1, fn(), a())},
	}
}

// ofType: the terms of that type, of at most that depth, in the small world
// and that context.
func ofType(ctx []kind.Type, u kind.Type, depth int) []term.Term {
	if depth == 0 {
		return nil
	}
	within := slices.Concat(ctx, u.Args)
	var all []term.Term
	for k := range 3 {
		for i := range 8 {
			of, e := term.HeadType(small(), within, term.Head{Kind: k, Index: i})
			if e != api.OK || of.Base != u.Base {
				continue
			}
			for _, args := range ofTypes(within, of.Args, depth-1) {
				all = append(all, bind(tm(k, i, args), u.Args...))
			}
		}
	}
	return all
}

// ofTypes: the lists of terms of these types, so, too.
func ofTypes(ctx, l []kind.Type, depth int) [][]term.Term {
	if len(l) == 0 {
		return [][]term.Term{nil}
	}
	var all [][]term.Term
	for _, x := range ofType(ctx, l[0], depth) {
		for _, rest := range ofTypes(ctx, l[1:], depth) {
			all = append(all, append([]term.Term{x}, rest...))
		}
	}
	return all
}

// some: about so many of l, from all over it.
func some(l []term.Term, n int) []term.Term {
	var all []term.Term
	for k := 0; k < len(l); k += 1 + len(l)/n {
		all = append(all, l[k])
	}
	return all
}

// longs: the long forms of these variables that binds bind.
func longs(binds []kind.Type, vars []int) []term.Term {
	var all []term.Term
	for _, v := range vars {
		all = append(all, long(v, binds[len(binds)-1-v].Args...))
	}
	return all
}

// What is taken out is typed outside of the binders, and with the variables
// put into it, within these, it is the term as it was.
func TestP11_4PutUndoesTake(t *testing.T) {
	w := small()
	outer := []kind.Type{b(), fn()}
	binds := []kind.Type{fn(), a(), kind.Of(0, fn())}
	same, clashed := 0, 0
	for n := range len(binds) + 1 {
		ctx := slices.Concat(outer, binds[:n])
		for _, of := range []kind.Type{a(), b(), fn(), kind.Of(1, b(), fn())} {
			for _, x := range some(ofType(ctx, of, 3), 150) {
				for _, vars := range choices(n) {
					got, e := pattern.Take(x, binds[:n], vars...)
					if (e == api.ErrClash) != anyLoose(x, n, vars) {
						t.Fatalf("%v within %d, %v: %d", x, n, vars, e)
					}
					if e != api.OK {
						clashed++
						continue
					}
					var front []kind.Type
					for _, v := range vars {
						front = append(front, binds[n-1-v])
					}
					if is := term.Check(w, outer, got, kind.Of(of.Base, slices.Concat(front, of.Args)...)); is != api.OK {
						t.Fatalf("%v within %d, %v: %v isn't typed: %d", x, n, vars, got, is)
					}
					within, e := term.Shift(got, n, 0)
					if e != api.OK {
						t.Fatal(e)
					}
					back, e := norm.Put(within, budget.New(api.MaxWork), longs(binds[:n], vars)...)
					if e != api.OK || !term.Equal(back, x) {
						t.Fatalf("%v within %d, %v: %v: back as %v, %d", x, n, vars, got, back, e)
					}
					same++
				}
			}
		}
	}
	if same < 2000 || clashed < 2000 {
		t.Error("too few:", same, clashed)
	}
}

// Where nothing is further out than the binders, what was taken out is put
// back as it is.
func TestP11_4PutUndoesTakeOfWhatIsClosed(t *testing.T) {
	binds := []kind.Type{kind.Of(0, fn()), a(), fn()}
	for _, x := range some(ofType(binds, fn(), 3), 300) {
		for _, vars := range choices(3) {
			got, e := pattern.Take(x, binds, vars...)
			if e != api.OK {
				continue
			}
			if term.Loose(got) != 0 {
				t.Fatalf("%v, %v: %v is loose", x, vars, got)
			}
			back, e := norm.Put(got, budget.New(api.MaxWork), longs(binds, vars)...)
			if e != api.OK || !term.Equal(back, x) {
				t.Fatalf("%v, %v: %v: back as %v, %d", x, vars, got, back, e)
			}
		}
	}
}

// The variables that a made use has are those of which it was made, and it is
// typed, if its metavariable is of such a type.
func TestP11_4VarsUndoesMake(t *testing.T) {
	binds := []kind.Type{kind.Of(1, a(), high()), fn(), a(), b()}
	for n := range len(binds) + 1 {
		for _, vars := range choices(n) {
			x, e := pattern.Make(1, binds[:n], vars...)
			got, is := pattern.Vars(x, n)
			if e != api.OK || is != api.OK || !slices.Equal(got, vars) {
				t.Fatalf("within %d, %v: %v, %d, %v, %d", n, vars, x, e, got, is)
			}
			of := kind.Of(1)
			for _, v := range vars {
				of.Args = append(of.Args, binds[n-1-v])
			}
			w := term.World{Bases: 2, Metas: []kind.Type{a(), of}}
			if e := term.Check(w, binds[:n], x, b()); e != api.OK {
				t.Fatalf("within %d, %v: %v: %d", n, vars, x, e)
			}
			whole := bind(x, binds[:n]...)
			l, e := pattern.Uses(whole)
			if e != api.OK || len(l) != 1 || !sameUse(l[0], pattern.Use{Meta: 1, Vars: vars, Binds: binds[:n]}) || !pattern.Linear(whole) {
				t.Fatalf("%v: %v, %d", whole, l, e)
			}
		}
	}
}

// Each use of a typed pattern stands at its path, and is made by its
// metavariable, binders and variables.
func TestP11_4UsesAreWhatIsThere(t *testing.T) {
	patterns, others := 0, 0
	for _, of := range []kind.Type{a(), fn(), kind.Of(0, fn(), a()), kind.Of(1, fn(), a(), fn())} {
		for _, x := range ofType(nil, of, 3) {
			l, e := pattern.Uses(x)
			if e != api.OK {
				others++
				continue
			}
			patterns++
			counts := 0
			for _, i := range term.Metas(x) {
				counts += term.Count(x, term.Head{Kind: term.Meta, Index: i})
			}
			if counts != len(l) || pattern.Linear(x) != (counts == len(term.Metas(x))) {
				t.Fatalf("%v: %v", x, l)
			}
			for i, u := range l {
				at, around, e := spot.At(x, u.Path...)
				made, is := pattern.Make(u.Meta, u.Binds, u.Vars...)
				if e != api.OK || is != api.OK || !sameTypes(around, u.Binds) || !term.Equal(made, term.Body(at)) || !pattern.Flex(at) {
					t.Fatalf("%v: %v: %v, %v", x, u, at, made)
				}
				if vars, e := pattern.Vars(at, len(u.Binds)); e != api.OK || !pattern.Same(vars, u.Vars) {
					t.Fatalf("%v: %v: %v, %d", x, u, vars, e)
				}
				if i > 0 && spot.Compare(l[i-1].Path, u.Path) >= 0 {
					t.Fatalf("%v: %v", x, l)
				}
			}
		}
	}
	if patterns < 500 || others < 500 {
		t.Error("too few:", patterns, others)
	}
}

// To take out and put somewhere else is to name the variables anew: a pattern
// stays one by other variables.
func TestP11_4TakenPatternsArePatterns(t *testing.T) {
	binds := []kind.Type{a(), fn()}
	for _, x := range some(ofType(binds, b(), 3), 600) {
		whole := bind(x, binds...)
		got, e := pattern.Take(x, binds, 0, 1)
		if e != api.OK || pattern.Is(got) != pattern.Is(whole) || pattern.Linear(got) != pattern.Linear(whole) {
			t.Fatalf("%v: %v, %d", whole, got, e)
		}
		back, e := pattern.Take(term.Body(got), []kind.Type{fn(), a()}, 0, 1)
		if e != api.OK || !term.Equal(back, whole) {
			t.Fatalf("%v: %v: %v, %d", whole, got, back, e)
		}
	}
}
