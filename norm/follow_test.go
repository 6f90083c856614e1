package norm_test

import (
	"slices"
	"testing"

	"filigree/api"
	"filigree/budget"
	"filigree/kind"
	"filigree/norm"
	"filigree/raw"
	"filigree/term"
)

// contexts: some that raw terms may stand in.
func contexts() [][]kind.Type { return [][]kind.Type{nil, types(fn(), a())} }

// all: raw terms that have a type in the small world and that context.
func all(ctx []kind.Type) []raw.Raw { return slices.Concat(typed(ctx, 7), some()) }

func TestP8_1FormsByTheChaptersWords(t *testing.T) {
	found := 0
	for _, ctx := range contexts() {
		for _, r := range all(ctx) {
			found++
			want, _, cost := form(small(), ctx, r)
			b := budget.New(work)
			got, e := norm.Long(small(), ctx, r, b)
			if e != api.OK || !same(got, want) || b.Used() != cost {
				t.Fatalf("%s: %s, %d, %d were spent; want %s, %d", codeRaw(r), code(got), e, b.Used(), code(want), cost)
			}
			if n, e := norm.Cost(small(), ctx, r); e != api.OK || n != cost {
				t.Fatalf("%s costs %d, %d; want %d", codeRaw(r), n, e, cost)
			}
			if of, e := norm.Of(small(), ctx, r); e != api.OK || !same(of, got) {
				t.Fatalf("%s: Of tells %s, %d; Long %s", codeRaw(r), code(of), e, code(got))
			}
			for _, n := range []int{0, cost / 2, cost - 1} {
				b := budget.New(n)
				if got, e := norm.Long(small(), ctx, r, b); e != api.ErrFuel || !zero(got) || b.Left() != 0 || !b.Dry() {
					t.Fatalf("%s, with %d: %s, %d, %d are left", codeRaw(r), n, code(got), e, b.Left())
				}
			}
		}
	}
	if found < 1000 {
		t.Error("too few have a type:", found)
	}
}

func TestP8_1FormsBySteps(t *testing.T) {
	for _, ctx := range contexts() {
		for _, r := range all(ctx) {
			if got, e := norm.Of(small(), ctx, r); e != api.OK || !same(got, stepped(small(), ctx, r)) {
				t.Fatalf("%s: %s, %d; want %s", codeRaw(r), code(got), e, code(stepped(small(), ctx, r)))
			}
		}
	}
}

func TestP8_4TheFormHasTheType(t *testing.T) {
	for _, ctx := range contexts() {
		for _, r := range all(ctx) {
			u, _ := raw.Infer(small(), ctx, r)
			got, e := norm.Of(small(), ctx, r)
			if is := term.Check(small(), ctx, got, u); e != api.OK || is != api.OK {
				t.Fatalf("%s: %s, %d, is told %d of %s", codeRaw(r), code(got), e, is, codeType(u))
			}
		}
	}
}

func TestP8_4AStepDoesNotChangeTheForm(t *testing.T) {
	steps := 0
	for _, ctx := range contexts() {
		for _, r := range all(ctx) {
			want, _ := norm.Of(small(), ctx, r)
			for next, ok := raw.Step(r); ok; next, ok = raw.Step(next) {
				steps++
				if got, e := norm.Of(small(), ctx, next); e != api.OK || !same(got, want) {
					t.Fatalf("%s: %s; its step %s: %s, %d", codeRaw(r), code(want), codeRaw(next), code(got), e)
				}
			}
		}
	}
	if steps < 500 {
		t.Error("too few steps:", steps)
	}
}

// ofType: the terms of that type, of at most that depth, in the small world
// and that context.
func ofType(ctx []kind.Type, u kind.Type, depth int) []term.Term {
	if depth == 0 {
		return nil
	}
	within := slices.Concat(ctx, u.Args)
	var all []term.Term
	for k := range 3 {
		for i := range 8 {
			of, e := term.HeadType(small(), within, head(k, i))
			if e != api.OK || of.Base != u.Base {
				continue
			}
			lists := [][]term.Term{nil}
			for _, arg := range of.Args {
				var more [][]term.Term
				for _, l := range lists {
					for _, x := range ofType(within, arg, depth-1) {
						more = append(more, append(slices.Clone(l), x))
					}
				}
				lists = more
			}
			for _, l := range lists {
				all = append(all, tm(u.Args, head(k, i), l...))
			}
		}
	}
	return all
}

func TestP8_4ATermsOwnRawTerm(t *testing.T) {
	found := 0
	for _, ctx := range [][]kind.Type{nil, types(fn(), b())} {
		for _, u := range types(a(), b(), fn(), of(1, fn()), of(0, of(0, fn()))) {
			for _, x := range ofType(ctx, u, 3) {
				found++
				if got, e := norm.Of(small(), ctx, raw.From(x)); e != api.OK || !same(got, x) {
					t.Fatalf("%s: %s, %d", code(x), code(got), e)
				}
			}
		}
	}
	if found < 500 {
		t.Error("too few terms:", found)
	}
}

// What is put stays well typed, and is the form of what is applied.
func TestP8_4WhatIsPutStaysWellTyped(t *testing.T) {
	found, ctx := 0, types(a(), fn())
	for _, u := range []kind.Type{fn(), of(0, fn()), of(0, fn(), a()), of(0, a(), fn()), of(0, of(0, fn()))} {
		var lists [][]term.Term
		for _, x := range ofType(ctx, u.Args[0], 2) {
			lists = append(lists, []term.Term{x})
			if len(u.Args) == 1 {
				continue
			}
			for _, y := range ofType(ctx, u.Args[1], 2)[:3] {
				lists = append(lists, []term.Term{x, y})
			}
		}
		for i, f := range ofType(ctx, u, 3) {
			for k := range 4 {
				found++
				l := lists[(i+k*7)%len(lists)]
				if !norm.Typed(small(), ctx, f, l...) {
					t.Fatalf("%s isn't typed with %d of them", code(f), len(l))
				}
				got, e := norm.Put(f, budget.New(work), l...)
				rest, _ := kind.Rest(u, len(l))
				if is := term.Check(small(), ctx, got, rest); e != api.OK || is != api.OK {
					t.Fatalf("%s by %s: %s, %d, %d", code(f), code(l[0]), code(got), e, is)
				}
				r := raw.From(f)
				for _, x := range l {
					r = app(r, raw.From(x))
				}
				if want := stepped(small(), ctx, r); !same(got, want) {
					t.Fatalf("%s by %s: %s; want %s", code(f), code(l[0]), code(got), code(want))
				}
			}
		}
	}
	if found < 1000 {
		t.Error("too few:", found)
	}
}

// Typed tells just what the checks of types tell.
func TestP8_2TypedOfSmallOnes(t *testing.T) {
	ctx := types(a(), fn())
	is := func(x term.Term, u kind.Type) bool { return term.Check(small(), ctx, x, u) == api.OK }
	some, fits := terms(2, 3), 0
	for _, x := range some {
		var found kind.Type
		ok := false
		for _, u := range []kind.Type{a(), fn(), of(0, a(), fn())} {
			if is(x, u) {
				found, ok = u, true
			}
		}
		if norm.Typed(small(), ctx, x) != ok {
			t.Fatalf("%s: not %t", code(x), ok)
		}
		for i, y := range some {
			first := ok && len(found.Args) > 0 && is(y, found.Args[0])
			if first {
				fits++
			}
			if norm.Typed(small(), ctx, x, y) != first {
				t.Fatalf("%s with %s: not %t", code(x), code(y), first)
			}
			z := some[i*5%len(some)]
			both := first && len(found.Args) > 1 && is(z, found.Args[1])
			if norm.Typed(small(), ctx, x, y, z) != both {
				t.Fatalf("%s with %s and %s: not %t", code(x), code(y), code(z), both)
			}
		}
	}
	if fits < 40 {
		t.Error("too few fit:", fits)
	}
}
