package term_test

import (
	"math"
	"slices"
	"testing"

	"filigree/api"
	"filigree/kind"
	"filigree/term"
)

// longOf: the long form of h as the chapter words it, where each variable has
// a number of its own, from which its index is found: around are the numbers
// of the binders there, the innermost last, and own is h's, or -1 if h isn't
// bound by them.
func longOf(h term.Head, own int, around []int, args []kind.Type, next *int) term.Term {
	t := term.Term{Binds: args, Head: h}
	first := *next
	for range args {
		around = append(around[:len(around):len(around)], *next)
		*next++
	}
	switch {
	case own >= 0:
		t.Head.Index = len(around) - 1 - slices.Index(around, own)
	case h.Kind == term.Bound:
		t.Head.Index += len(around)
	}
	for i, x := range args {
		t.Args = append(t.Args, longOf(head(0, 0), first+i, around, x.Args, next))
	}
	return t
}

func longForm(h term.Head, of kind.Type) term.Term {
	next := 0
	return longOf(h, -1, nil, of.Args, &next)
}

// typesUpTo: all types of at most that size, of the bases 0 and 1.
func typesUpTo(size int) []kind.Type {
	var all []kind.Type
	for _, t := range upTo(size, []term.Head{{}}, nil) {
		u := shape(t)
		all = append(all, u, of(1, u.Args...))
	}
	return all
}

// shape: a type with arguments as t has them.
func shape(t term.Term) kind.Type {
	u := of(len(t.Args) % 2)
	for _, x := range t.Args {
		u.Args = append(u.Args, shape(x))
	}
	return u
}

func TestExample(t *testing.T) {
	f := of(0, of(0, a()))
	x := term.Eta(term.Head{Kind: term.Const, Index: 0}, f)
	if !same(x, lam(con(0, lam(bound(1, bound(0)), a())), of(0, a()))) {
		t.Error(code(x))
	}
	if h, ok := term.Var(x); h != head(term.Const, 0) || !ok {
		t.Error(h, ok)
	}
}

func TestP6_4Eta(t *testing.T) {
	for _, c := range []struct {
		h    term.Head
		of   kind.Type
		want term.Term
	}{
		{head(1, 3), a(), con(3)},
		{head(2, 0), of(-7), meta(0)},
		{head(0, 4), b(), bound(4)},
		{head(1, 0), of(1, a()), lam(con(0, bound(0)), a())},
		{head(0, 2), of(1, a()), lam(bound(3, bound(0)), a())},
		{head(2, 5), of(1, a(), b()), lam(meta(5, bound(1), bound(0)), a(), b())},
		{head(0, 0), of(0, a(), of(1, a()), b()), lam(bound(3, bound(2), lam(bound(2, bound(0)), a()), bound(0)), a(), of(1, a()), b())},
		{head(0, 1), of(0, of(0, of(1, a(), b()))), lam(bound(2, lam(bound(1, lam(bound(2, bound(1), bound(0)), a(), b())), of(1, a(), b()))), of(0, of(1, a(), b())))},
	} {
		if got := term.Eta(c.h, c.of); !same(got, c.want) || !same(longForm(c.h, c.of), c.want) {
			t.Errorf("Eta(%v, %s): %s; want %s", c.h, codeType(c.of), code(got), code(c.want))
		}
	}
	for _, u := range typesUpTo(6) {
		for _, h := range []term.Head{head(0, 0), head(0, 7), head(0, 1000), head(1, 2), head(2, 1), head(1, -4), head(5, 6)} {
			if got := term.Eta(h, u); !same(got, longForm(h, u)) {
				t.Fatalf("Eta(%v, %s): %s", h, codeType(u), code(got))
			}
		}
	}
}

func TestP6_4EtaOfIndexes(t *testing.T) {
	for _, u := range types(a(), of(1, a()), of(0, of(1, a()), b())) {
		for _, i := range odd() {
			got := term.Eta(head(0, i), u)
			if i < 0 || i > api.MaxItems {
				if !zero(got) {
					t.Errorf("Eta(Bound %d, %s): %s; want the zero term", i, codeType(u), code(got))
				}
			} else if !same(got, longForm(head(0, i), u)) {
				t.Errorf("Eta(Bound %d, %s): %s", i, codeType(u), code(got))
			}
			// Of others any number goes.
			for _, k := range []int{1, 2} {
				if got := term.Eta(head(k, i), u); !same(got, longForm(head(k, i), u)) {
					t.Errorf("Eta(%d %d, %s): %s", k, i, codeType(u), code(got))
				}
			}
		}
	}
	// The limit is that of the head, not that of the variables.
	wide := of(0, slices.Repeat(types(a(), of(0, a())), 1500)...)
	for _, h := range []term.Head{head(0, 1000), head(1, 0)} {
		got := term.Eta(h, wide)
		if !same(got, longForm(h, wide)) {
			t.Errorf("Eta(%v) of 3000 arguments", h)
		}
		if back, ok := term.Var(got); back != h || !ok {
			t.Error("Var of it:", back, ok)
		}
	}
}

func TestP6_4Var(t *testing.T) {
	for name, c := range map[string]struct {
		t    term.Term
		want term.Head
		ok   bool
	}{
		"a constant":                   {con(3), head(1, 3), true},
		"a metavariable":               {meta(3), head(2, 3), true},
		"an index":                     {bound(3), head(0, 3), true},
		"an index of any size":         {bound(math.MaxInt), head(0, math.MaxInt), true},
		"the zero term":                {term.Term{}, head(0, 0), true},
		"an index below 0":             {bound(-1), head(0, 0), false},
		"far below 0":                  {bound(math.MinInt), head(0, 0), false},
		"below 0, within a binder":     {lam(bound(-1, bound(0)), a()), head(0, 0), false},
		"far below 0, within a binder": {lam(bound(math.MinInt, bound(0)), a()), head(0, 0), false},
		"a function":                   {lam(con(1, bound(0)), a()), head(1, 1), true},
		"a function, bound outside":    {lam(bound(4, bound(1), bound(0)), a(), b()), head(0, 2), true},
		"the least bound outside":      {lam(bound(2, bound(1), bound(0)), a(), b()), head(0, 0), true},
		"bound by its own":             {lam(bound(1, bound(1), bound(0)), a(), b()), head(0, 0), false},
		"its own variable":             {lam(bound(0), a()), head(0, 0), false},
		"applied to itself":            {lam(bound(0, bound(0)), of(0, a())), head(0, 0), false},
		"an argument, no binder":       {con(1, con(0)), head(0, 0), false},
		"a binder, no argument":        {lam(con(1), a()), head(0, 0), false},
		"an argument less":             {lam(con(1, bound(1)), a(), b()), head(0, 0), false},
		"an argument more":             {lam(con(1, bound(0), bound(0)), a()), head(0, 0), false},
		"the other way round":          {lam(con(1, bound(0), bound(1)), a(), b()), head(0, 0), false},
		"one twice":                    {lam(con(1, bound(1), bound(1)), a(), a()), head(0, 0), false},
		"a variable from outside":      {lam(con(1, bound(1)), a()), head(0, 0), false},
		"a constant as argument":       {lam(con(1, con(0)), a()), head(0, 0), false},
		"an argument that has some":    {lam(con(1, bound(0, con(0))), a()), head(0, 0), false},
		"an argument that binds":       {lam(con(1, lam(bound(1, bound(0)), a())), a()), head(0, 0), false},
		"a higher argument":            {lam(con(1, lam(bound(1, bound(0)), a())), of(0, a())), head(1, 1), true},
		"one not in long form":         {lam(con(1, bound(0)), of(0, a())), head(0, 0), false},
		"one of another type":          {lam(con(1, lam(bound(1, bound(0)), b())), of(0, a())), head(0, 0), false},
		"one of more binders":          {lam(con(1, lam(bound(2, bound(1), bound(0)), a(), a())), of(0, a())), head(0, 0), false},
		"one that is its own variable": {lam(con(1, lam(bound(0, bound(0)), a())), of(0, a())), head(0, 0), false},
		"wrong far within":             {lam(con(1, bound(1), lam(bound(1, bound(1)), a())), b(), of(0, a())), head(0, 0), false},
		"a number below 0":             {lam(con(-2, bound(0)), a()), head(1, -2), true},
	} {
		if h, ok := term.Var(c.t); h != c.want || ok != c.ok {
			t.Errorf("%s: %v, %t", name, h, ok)
		}
	}
}

// All small terms are held against all long forms that they might be.
func TestP6_4VarOfAllSmallTerms(t *testing.T) {
	heads := []term.Head{head(0, 0), head(0, 1), head(0, 2), head(0, 3), head(1, 0), head(2, 5)}
	found := 0
	for _, x := range upTo(3, heads, nil, types(a()), types(b(), a()), types(of(0, a()))) {
		var want term.Head
		is := false
		for _, h := range []term.Head{head(0, 0), head(0, 1), head(0, 2), head(0, 3), head(1, 0), head(2, 5)} {
			if same(longForm(h, of(0, x.Binds...)), x) {
				want, is = h, true
				found++
			}
		}
		if h, ok := term.Var(x); h != want || ok != is {
			t.Fatalf("Var(%s): %v, %t; want %v, %t", code(x), h, ok, want, is)
		}
	}
	if found != 6+5+4+5 {
		t.Error("how many are long forms:", found)
	}
}

func TestP6_5VarUndoesEta(t *testing.T) {
	for _, u := range typesUpTo(6) {
		for k := range 4 {
			for _, i := range []int{0, 1, 2, 5, 999, 1000} {
				if h, ok := term.Var(term.Eta(head(k, i), u)); h != head(k, i) || !ok {
					t.Fatalf("%d %d of %s: %v, %t", k, i, codeType(u), h, ok)
				}
			}
		}
	}
}

func TestP6_5ALongFormIsOfTheHeadsType(t *testing.T) {
	for _, u := range typesUpTo(6) {
		w := term.World{Bases: 2, Consts: types(a(), u), Metas: types(b(), b(), u)}
		ctx := types(b(), u, a())
		for _, h := range []term.Head{head(0, 1), head(1, 1), head(2, 2)} {
			x := term.Eta(h, u)
			v, e := term.TypeOf(w, ctx, x)
			if c := term.Check(w, ctx, x, u); c != api.OK || e != api.OK || codeType(v) != codeType(u) {
				t.Fatalf("%v of %s: Check %d, TypeOf %s, %d", h, codeType(u), c, codeType(v), e)
			}
			if term.Size(x) != kind.Size(u) || term.Depth(x) != kind.Depth(u) {
				t.Fatalf("%v of %s: size %d, depth %d", h, codeType(u), term.Size(x), term.Depth(x))
			}
		}
	}
	deep := a()
	for range api.MaxNest - 1 {
		deep = of(0, deep)
	}
	w := term.World{Bases: 1, Consts: types(deep, of(0, slices.Repeat(types(a()), api.MaxItems-1)...))}
	for i, u := range w.Consts {
		if e := term.Check(w, nil, term.Eta(head(1, i), u), u); e != api.OK {
			t.Error("at the limits of types:", i, e)
		}
	}
}
