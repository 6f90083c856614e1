package term_test

import (
	"math"
	"slices"
	"testing"

	"filigree/api"
	"filigree/kind"
	"filigree/term"
)

// small: a world of two bases: constants a, a -> a, (a -> a) -> b -> b, and
// metavariables b, a -> b.
func small() term.World {
	return term.World{
		Bases:  2,
		Consts: types(a(), of(0, a()), of(1, of(0, a()), b())),
		Metas:  types(b(), of(1, a())),
	}
}

// codeWorld: w, told so that no two worlds are told the same.
func codeWorld(w term.World) string {
	return codeType(of(w.Bases, of(0, w.Consts...), of(0, w.Metas...)))
}

func TestP6_1RightWorld(t *testing.T) {
	many := func(n int) []kind.Type { return slices.Repeat(types(a()), n) }
	deep := of(0, a())
	for range api.MaxNest - 2 {
		deep = of(0, deep)
	}
	for name, c := range map[string]struct {
		w    term.World
		want bool
	}{
		"small":                       {small(), true},
		"empty":                       {term.World{}, true},
		"bases alone":                 {term.World{Bases: 7}, true},
		"no types, bases below 0":     {term.World{Bases: -1}, true},
		"a constant of no base":       {term.World{Bases: 1, Consts: types(a(), b())}, false},
		"a constant of it within":     {term.World{Bases: 1, Consts: types(of(0, of(0, b())), a())}, false},
		"a metavariable of no base":   {term.World{Bases: 1, Metas: types(b(), a())}, false},
		"a metavariable of it within": {term.World{Bases: 1, Consts: types(a()), Metas: types(a(), of(0, b()))}, false},
		"a base below 0":              {term.World{Bases: 1, Metas: types(of(-1))}, false},
		"no bases":                    {term.World{Consts: types(a())}, false},
		"bases below 0":               {term.World{Bases: -5, Metas: types(a())}, false},
		"a type too wide":             {term.World{Bases: 1, Consts: types(of(0, many(1000)...))}, false},
		"a type just as wide":         {term.World{Bases: 1, Consts: types(of(0, many(999)...))}, true},
		"a type just as deep":         {term.World{Bases: 1, Metas: types(deep)}, true},
		"a type too deep":             {term.World{Bases: 1, Metas: types(of(0, deep))}, false},
		"1000 constants":              {term.World{Bases: 1, Consts: many(1000)}, true},
		"1001 constants":              {term.World{Bases: 1, Consts: many(1001)}, false},
		"1000 metavariables":          {term.World{Bases: 1, Metas: many(1000)}, true},
		"1001 metavariables":          {term.World{Bases: 1, Metas: many(1001)}, false},
		"1000 together":               {term.World{Bases: 1, Consts: many(400), Metas: many(600)}, true},
		"1001 together":               {term.World{Bases: 1, Consts: many(401), Metas: many(600)}, false},
		"very many bases":             {term.World{Bases: math.MaxInt, Metas: types(of(math.MaxInt - 1))}, true},
	} {
		if got := term.RightWorld(c.w); got != c.want {
			t.Errorf("%s: %t", name, got)
		}
	}
}

func TestP6_2HeadType(t *testing.T) {
	w, ctx := small(), types(of(7), of(8, a()), of(9))
	// By kinds, what is there, from the index 0 on.
	there := [][]kind.Type{{of(9), of(8, a()), of(7)}, w.Consts, w.Metas}
	for _, k := range append(odd(), 4, 5) {
		for _, i := range odd() {
			got, e := term.HeadType(w, ctx, head(k, i))
			if k >= 0 && k < 3 && i >= 0 && i < len(there[k]) {
				if e != api.OK || codeType(got) != codeType(there[k][i]) {
					t.Errorf("%d %d: %s, %d", k, i, codeType(got), e)
				}
			} else if e != api.ErrNone || got.Base != 0 || len(got.Args) != 0 {
				t.Errorf("%d %d: %s, %d; want ErrNone", k, i, codeType(got), e)
			}
		}
	}
	for k := range 4 {
		for _, i := range odd() {
			if got, e := term.HeadType(term.World{Bases: 5}, nil, head(k, i)); e != api.ErrNone || got.Base != 0 || len(got.Args) != 0 {
				t.Errorf("%d %d of nothing: %s, %d", k, i, codeType(got), e)
			}
		}
	}
}

func TestP6_2TypeOf(t *testing.T) {
	w, ctx := small(), types(of(7), of(8, a()))
	for _, c := range []struct {
		t    term.Term
		want kind.Type
		e    api.Errno
	}{
		{con(0), a(), api.OK},
		{meta(0), b(), api.OK},
		{con(2), b(), api.OK},
		{meta(1, con(0)), b(), api.OK},
		{lam(con(0), b()), of(0, b()), api.OK},
		{lam(con(2), b(), of(0, a())), of(1, b(), of(0, a())), api.OK},
		{bound(0), of(8), api.OK},
		{bound(1), of(7), api.OK},
		{lam(bound(0), a(), b()), of(1, a(), b()), api.OK},
		{lam(bound(1), a(), b()), of(0, a(), b()), api.OK},
		{lam(bound(2), a(), b()), of(8, a(), b()), api.OK},
		{lam(bound(3), a(), b()), of(7, a(), b()), api.OK},
		{lam(bound(0), of(5, of(6))), of(5, of(5, of(6))), api.OK},
		// Arguments aren't looked at, nor whether it is right.
		{con(0, con(99), bound(-1)), a(), api.OK},
		{chain(levels, con(0)), a(), api.OK},
		{wide(6000), a(), api.OK},
		{bound(2), kind.Type{}, api.ErrNone},
		{bound(-1), kind.Type{}, api.ErrNone},
		{lam(bound(4), a(), b()), kind.Type{}, api.ErrNone},
		{lam(bound(-1), a(), b()), kind.Type{}, api.ErrNone},
		{con(3), kind.Type{}, api.ErrNone},
		{lam(con(3), a()), kind.Type{}, api.ErrNone},
		{con(-1), kind.Type{}, api.ErrNone},
		{meta(2), kind.Type{}, api.ErrNone},
		{term.Term{Head: head(3, 0)}, kind.Type{}, api.ErrNone},
		{lam(term.Term{Head: head(-1, 0)}, a()), kind.Type{}, api.ErrNone},
	} {
		if got, e := term.TypeOf(w, ctx, c.t); e != c.e || codeType(got) != codeType(c.want) {
			t.Errorf("TypeOf(%.60s): %s, %d; want %s, %d", code(c.t), codeType(got), e, codeType(c.want), c.e)
		}
	}
}

func TestP6_2TypesAreNewMemory(t *testing.T) {
	w, ctx, binds := small(), types(of(3, of(2, a()))), types(of(0, of(1, a())))
	for name, make := range map[string]func() kind.Type{
		"a constant's":     func() kind.Type { u, _ := term.HeadType(w, ctx, head(1, 2)); return u },
		"a metavariable's": func() kind.Type { u, _ := term.HeadType(w, ctx, head(2, 1)); return u },
		"an index's":       func() kind.Type { u, _ := term.HeadType(w, ctx, head(0, 0)); return u },
		"a term's":         func() kind.Type { u, _ := term.TypeOf(w, ctx, lam(con(0), binds...)); return u },
	} {
		want := codeType(make())
		spoilTypes(make().Args)
		growType(make())
		if codeType(make()) != want || codeWorld(w) != codeWorld(small()) || codeType(of(0, ctx...)) != codeType(of(0, of(3, of(2, a())))) || codeType(of(0, binds...)) != codeType(of(0, of(0, of(1, a())))) {
			t.Errorf("%s: who changes the answer changes what was handed in", name)
		}
	}
}

// isOf: whether t is of that type, as the chapter words it.
func isOf(w term.World, ctx []kind.Type, t term.Term, of kind.Type) bool {
	if !slices.EqualFunc(t.Binds, of.Args, func(x, y kind.Type) bool { return codeType(x) == codeType(y) }) {
		return false
	}
	around := slices.Concat(ctx, t.Binds)
	slices.Reverse(around)
	there := map[int][]kind.Type{0: around, 1: w.Consts, 2: w.Metas}[t.Head.Kind]
	if t.Head.Index < 0 || t.Head.Index >= len(there) {
		return false
	}
	h := there[t.Head.Index]
	if h.Base != of.Base || len(h.Args) != len(t.Args) {
		return false
	}
	for i, x := range t.Args {
		if !isOf(w, slices.Concat(ctx, t.Binds), x, h.Args[i]) {
			return false
		}
	}
	return true
}

func TestP6_2Check(t *testing.T) {
	w, ctx := small(), types(b(), of(1, a()))
	id := lam(bound(0), a())
	for name, c := range map[string]struct {
		t    term.Term
		of   kind.Type
		want api.Errno
	}{
		"a constant":                      {con(0), a(), api.OK},
		"of another base":                 {con(0), b(), api.ErrType},
		"a metavariable":                  {meta(0), b(), api.OK},
		"applied":                         {con(1, con(0)), a(), api.OK},
		"applied to another type":         {con(1, meta(0)), a(), api.ErrType},
		"an argument less":                {con(1), a(), api.ErrType},
		"not in long form":                {con(1), of(0, a()), api.ErrType},
		"an argument more":                {con(0, con(0)), a(), api.ErrType},
		"its long form":                   {lam(con(1, bound(0)), a()), of(0, a()), api.OK},
		"a function as argument":          {con(2, id, meta(0)), b(), api.OK},
		"no function as argument":         {con(2, con(0), meta(0)), b(), api.ErrType},
		"arguments the other way":         {con(2, meta(0), id), b(), api.ErrType},
		"the last argument wrong":         {con(2, id, con(0)), b(), api.ErrType},
		"a binder of another type":        {con(2, lam(bound(0), b()), meta(0)), b(), api.ErrType},
		"one of another type, not used":   {con(2, lam(con(0), b()), meta(0)), b(), api.ErrType},
		"binders the other way, not used": {lam(con(0), a(), b()), of(0, b(), a()), api.ErrType},
		"a binder more":                   {con(2, lam(bound(0), a(), a()), meta(0)), b(), api.ErrType},
		"a body of another base":          {con(2, lam(meta(0), a()), meta(0)), b(), api.ErrType},
		"an index of the context":         {bound(1), b(), api.OK},
		"the context's innermost":         {bound(0, con(0)), b(), api.OK},
		"beyond the context":              {bound(2), b(), api.ErrType},
		"below 0":                         {bound(-1), b(), api.ErrType},
		"the context, from within":        {lam(bound(2), a()), of(1, a()), api.OK},
		"beyond it, from within":          {lam(bound(3), a()), of(1, a()), api.ErrType},
		"two binders, the last":           {lam(bound(0), a(), b()), of(1, a(), b()), api.OK},
		"two binders, the first":          {lam(bound(1), a(), b()), of(0, a(), b()), api.OK},
		"two binders, turned":             {lam(bound(1), b(), a()), of(0, a(), b()), api.ErrType},
		"a bound function":                {lam(bound(0, con(0)), of(0, a())), of(0, of(0, a())), api.OK},
		"through two levels":              {con(2, lam(con(1, bound(0)), a()), meta(1, con(1, con(0)))), b(), api.OK},
		"binders of a sibling":            {con(2, id, bound(2)), b(), api.ErrType},
		"the context behind a sibling":    {con(2, id, bound(1)), b(), api.OK},
		"the context behind two siblings": {con(2, lam(bound(0), a()), con(2, lam(con(0), a()), bound(0, con(0)))), b(), api.OK},
		"a constant that isn't there":     {con(3), a(), api.ErrType},
		"a constant below 0":              {con(-1), a(), api.ErrType},
		"a metavariable that isn't there": {meta(2), b(), api.ErrType},
		"no kind of head":                 {term.Term{Head: head(3, 0)}, a(), api.ErrType},
		"within, one that isn't there":    {con(1, con(9)), a(), api.ErrType},
	} {
		if got := term.Check(w, ctx, c.t, c.of); got != c.want {
			t.Errorf("%s: %d; want %d", name, got, c.want)
		}
		if isOf(w, ctx, c.t, c.of) != (c.want == api.OK) {
			t.Errorf("%s: the table's wrong", name)
		}
	}
}

func TestP6_2CheckAtTheLimits(t *testing.T) {
	row := func(n int) kind.Type { return of(0, slices.Repeat(types(a()), n)...) }
	full := func(n int) term.Term { return con(2, slices.Repeat([]term.Term{con(0)}, n)...) }
	tower := func(depth int) term.Term {
		x := con(0)
		for range depth - 1 {
			x = con(1, x)
		}
		return x
	}
	world := func(n int) term.World { return term.World{Bases: 1, Consts: types(a(), of(0, a()), row(n))} }
	for name, c := range map[string]struct {
		w    term.World
		t    term.Term
		of   kind.Type
		want api.Errno
	}{
		"size 5000":                    {world(4999), full(4999), a(), api.OK},
		"size 5001":                    {world(5000), full(5000), a(), api.ErrLong},
		"depth 60":                     {world(1), tower(60), a(), api.OK},
		"depth 61":                     {world(1), tower(61), a(), api.ErrLong},
		"depth 61 and of another type": {world(1), tower(61), b(), api.ErrLong},
		"depth 60 and of another type": {world(1), tower(60), b(), api.ErrType},
		"size 5001 and no world":       {term.World{}, full(5000), a(), api.ErrLong},
		"many levels":                  {world(1), tower(levels), a(), api.ErrLong},
		"more than can be counted":     {term.World{}, doubled(api.MaxNest), a(), api.ErrLong},
		"a type that isn't right":      {term.World{Consts: types(of(-4))}, lam(con(0), of(-1, of(9))), of(-4, of(-1, of(9))), api.OK},
		"many binders":                 {world(1), lam(bound(2999), row(3000).Args...), row(3000), api.OK},
		"one binder too many":          {world(1), lam(bound(2999), row(3000).Args...), row(2999), api.ErrType},
	} {
		if got := term.Check(c.w, nil, c.t, c.of); got != c.want {
			t.Errorf("%s: %d; want %d", name, got, c.want)
		}
	}
}

func TestP6_2CheckOfAllSmallTerms(t *testing.T) {
	heads := []term.Head{head(0, 0), head(0, 1), head(0, 2), head(1, 0), head(1, 1), head(1, 2), head(2, 1), head(2, 2)}
	all := upTo(3, heads, nil, types(a()))
	found := 0
	for _, ctx := range [][]kind.Type{nil, types(b(), of(1, a())), types(of(0, a()), a())} {
		for _, u := range types(a(), b(), of(0, a()), of(1, a())) {
			for _, x := range all {
				want := api.ErrType
				if isOf(small(), ctx, x, u) {
					want = api.OK
					found++
				}
				if got := term.Check(small(), ctx, x, u); got != want {
					t.Fatalf("Check(%s, %s): %d; want %d", code(x), codeType(u), got, want)
				}
			}
		}
	}
	if found < 50 {
		t.Error("too few are of a type:", found)
	}
}

// What is of a type is of the one that TypeOf tells.
func TestP6_2CheckAndTypeOfAgree(t *testing.T) {
	ctx := types(of(0, a()), a())
	for _, x := range upTo(3, []term.Head{head(0, 0), head(0, 1), head(0, 2), head(1, 1), head(2, 1)}, nil, types(a())) {
		u, e := term.TypeOf(small(), ctx, x)
		for _, v := range types(a(), b(), of(0, a()), of(1, a())) {
			if term.Check(small(), ctx, x, v) == api.OK && (e != api.OK || codeType(u) != codeType(v)) {
				t.Fatalf("%s is of %s, but TypeOf tells %s, %d", code(x), codeType(v), codeType(u), e)
			}
		}
	}
}
