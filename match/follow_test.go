package match_test

import (
	"slices"
	"testing"

	"filigree/api"
	"filigree/budget"
	"filigree/kind"
	"filigree/match"
	"filigree/pattern"
	"filigree/spot"
	"filigree/subst"
	"filigree/term"
)

// small: a world of these constants: z, of a; s, of a -> a; l, of
// (a -> a) -> a; k, of a -> b; p, of a -> a -> a; and metavariables of a, of
// a -> a -> a and of (a -> a) -> a -> b.
func small() term.World {
	return term.World{
		Bases:  2,
		Consts: []kind.Type{a(), fn(), kind.Of(0, fn()), kind.Of(1, a()), kind.Of(0, a(), a())},
		Metas:  []kind.Type{a(), kind.Of(0, a(), a()), kind.Of(1, fn(), a())},
	}
}

// ofType: the terms of that type, of at most that depth, in the small world
// and that context.
func ofType(ctx []kind.Type, u kind.Type, depth int) []term.Term {
	if depth == 0 {
		return nil
	}
	within := slices.Concat(ctx, u.Args)
	var all []term.Term
	for k := range 3 {
		for i := range 8 {
			of, e := term.HeadType(small(), within, term.Head{Kind: k, Index: i})
			if e != api.OK || of.Base != u.Base {
				continue
			}
			for _, args := range ofTypes(within, of.Args, depth-1) {
				all = append(all, bind(tm(k, i, args), u.Args...))
			}
		}
	}
	return all
}

// ofTypes: the lists of terms of these types, so, too.
func ofTypes(ctx, l []kind.Type, depth int) [][]term.Term {
	if len(l) == 0 {
		return [][]term.Term{nil}
	}
	var all [][]term.Term
	for _, x := range ofType(ctx, l[0], depth) {
		for _, rest := range ofTypes(ctx, l[1:], depth) {
			all = append(all, append([]term.Term{x}, rest...))
		}
	}
	return all
}

// sides: the types of the terms that are gone through.
func sides() []kind.Type {
	return []kind.Type{a(), b(), fn(), kind.Of(0, fn(), a()), kind.Of(1, a(), fn())}
}

// patternsOf: typed patterns of that type, some of which have a metavariable
// in more than one place.
func patternsOf(u kind.Type) []term.Term {
	all := those(ofType(nil, u, 3), pattern.Is)
	for _, p := range some(all, 40) {
		for _, q := range some(all, 10) {
			if u.Base == 0 {
				all = append(all, bind(c(4, term.Body(p), term.Body(q)), u.Args...))
			}
		}
	}
	return all
}

// outer: the types of binders around all of it.
func outer() []kind.Type { return []kind.Type{b(), fn()} }

// typed: p with some typed terms at the places of its uses, which have loose
// indexes of the binders around all of it.
func typed(p term.Term, turn int) term.Term {
	l, e := pattern.Uses(p)
	if e != api.OK {
		panic(e)
	}
	t := p
	for i, u := range l {
		of, e := term.HeadType(small(), nil, term.Head{Kind: term.Meta, Index: u.Meta})
		if e != api.OK {
			panic(e)
		}
		bodies := ofType(slices.Concat(outer(), u.Binds), kind.Of(of.Base), 2)
		t, e = spot.Replace(t, bodies[(turn*7+i*turn)%len(bodies)], u.Path...)
		if e != api.OK {
			panic(e)
		}
	}
	return t
}

// applied: what s makes of p.
func applied(t *testing.T, s subst.Subst, p term.Term) term.Term {
	x, e := subst.Apply(s, p, budget.New(api.MaxWork))
	if e != api.OK {
		t.Fatalf("%v on %v: %d", s, p, e)
	}
	return x
}

// What matches is typed, and applied to the pattern it is the term.
func TestP12_4WhatMatchesMakesTheTerm(t *testing.T) {
	met := map[api.Errno]int{}
	for _, u := range sides() {
		terms := some(ofType(outer(), u, 3), 30)
		for _, p := range some(patternsOf(u), 150) {
			all := slices.Clone(terms)
			for turn := range 6 {
				all = append(all, typed(p, turn))
			}
			for _, x := range all {
				if e := term.Check(small(), outer(), x, u); e != api.OK {
					t.Fatalf("%v: %v isn't typed: %d", p, x, e)
				}
				s, e := match.Match(p, x)
				met[e]++
				if e != api.OK {
					continue
				}
				if is := subst.Check(small(), outer(), s); is != api.OK || !slices.Equal(subst.Domain(s), term.Metas(p)) {
					t.Fatalf("%v, %v: %v isn't typed: %d", p, x, s, is)
				}
				if got := applied(t, s, p); !term.Equal(got, x) {
					t.Fatalf("%v, %v: %v makes %v", p, x, s, got)
				}
			}
		}
	}
	if met[api.OK] < 1000 || met[api.ErrClash] < 1000 || len(met) != 2 {
		t.Error(met)
	}
}

// A pattern matches what a substitution makes of it by just that, as far as its
// metavariables go.
func TestP12_4APatternMatchesItsInstances(t *testing.T) {
	w := small()
	for _, ctx := range [][]kind.Type{nil, outer()} {
		var terms [][]term.Term
		for _, u := range w.Metas {
			terms = append(terms, some(ofType(ctx, u, 3), 97))
		}
		for _, u := range sides() {
			for k, p := range patternsOf(u) {
				for turn := range 5 {
					var s subst.Subst
					for i, l := range terms {
						s = append(s, subst.Pair{Meta: i, Term: l[(k*7+turn*(i+3))%len(l)]})
					}
					if e := subst.Check(w, ctx, s); e != api.OK {
						t.Fatalf("%v: %d", s, e)
					}
					x := applied(t, s, p)
					want := slices.DeleteFunc(slices.Clone(s), func(x subst.Pair) bool { return !slices.Contains(term.Metas(p), x.Meta) })
					if got, e := match.Match(p, x); e != api.OK || !subst.Equal(got, want) {
						t.Fatalf("%v by %v is %v: %v, %d", p, s, x, got, e)
					}
				}
			}
		}
	}
}

// Pairs match what a substitution makes of them by just that.
func TestP12_4AllMatchesInstances(t *testing.T) {
	l := some(patternsOf(a()), 40)
	others := some(patternsOf(kind.Of(1, a(), fn())), 40)
	s := list(c(1, c(0)), bind(c(4, v(1), c(4, v(0), v(1))), a(), a()), bind(c(3, v(1, v(0))), fn(), a()))
	if e := subst.Check(small(), nil, s); e != api.OK {
		t.Fatal(e)
	}
	for _, p := range l {
		for _, q := range others {
			want := slices.DeleteFunc(slices.Clone(s), func(x subst.Pair) bool { return !slices.Contains(term.Metas(p, q), x.Meta) })
			if got, e := match.All(pair(p, applied(t, s, p)), pair(q, applied(t, s, q))); e != api.OK || !subst.Equal(got, want) {
				t.Fatalf("%v and %v: %v, %d", p, q, got, e)
			}
		}
	}
}

// What is found and made of the pattern, put back at the path, is the term.
func TestP12_4WhatIsFoundMakesTheBody(t *testing.T) {
	patterns := slices.Concat(ofType(nil, a(), 3), ofType(nil, b(), 3))
	patterns = some(those(patterns, pattern.Is), 70)
	found := 0
	for _, u := range sides() {
		for _, x := range some(ofType(outer(), u, 3), 150) {
			for _, p := range patterns {
				path, s, e := match.Find(p, x)
				if e != api.OK {
					continue
				}
				back, e := spot.Replace(x, applied(t, s, p), path...)
				if e != api.OK || !term.Equal(back, x) {
					t.Fatalf("%v in %v: %v by %v: %v, %d", p, x, path, s, back, e)
				}
				found += len(path)
			}
		}
	}
	if found < 1000 {
		t.Error("too few:", found)
	}
}

// A pattern with other numbers is a variant of it; what it makes of itself is
// one, or less general.
func TestP12_4RenamedOnesAreVariants(t *testing.T) {
	less := 0
	for _, u := range sides() {
		for k, p := range patternsOf(u) {
			q, e := subst.Rename(p, 5)
			if e != api.OK || !match.Variant(p, p) || !match.Variant(p, q) || !match.Variant(q, p) || match.Less(p, q) || match.Less(q, p) {
				t.Fatalf("%v, %v: %d", p, q, e)
			}
			x := typed(p, k)
			if term.Loose(x) > 0 || !pattern.Is(x) || !match.Is(p, x) {
				continue
			}
			if match.Less(p, x) == match.Is(x, p) || match.Less(x, p) {
				t.Fatalf("%v, %v", p, x)
			}
			if match.Less(p, x) {
				less++
			}
		}
	}
	if less < 20 {
		t.Error("too few:", less)
	}
}
