package raw_test

import (
	"math"
	"slices"
	"testing"

	"filigree/api"
	"filigree/kind"
	"filigree/raw"
	"filigree/term"
)

// small: a world of two bases: constants a, a -> a, (a -> a) -> b -> b, and
// metavariables b, a -> b.
func small() term.World {
	return term.World{
		Bases:  2,
		Consts: types(a(), of(0, a()), of(1, of(0, a()), b())),
		Metas:  types(b(), of(1, a())),
	}
}

func TestP7_2Infer(t *testing.T) {
	f := of(0, a())
	ctx := types(of(1, b()), f, a())
	for name, c := range map[string]struct {
		r    raw.Raw
		want kind.Type
	}{
		"a Const":                       {con(1), f},
		"a Const of more":               {con(2), of(1, f, b())},
		"a Meta":                        {meta(1), of(1, a())},
		"the innermost variable":        {bound(0), a()},
		"the outermost variable":        {bound(2), of(1, b())},
		"a Lam":                         {lam(b(), con(0)), of(0, b())},
		"a Lam of its variable":         {lam(b(), bound(0)), of(1, b())},
		"a Lam of an outer variable":    {lam(b(), bound(2)), of(0, b(), a())},
		"a Lam of a Lam":                {lam(f, lam(b(), bound(1))), of(0, f, b(), a())},
		"a Lam's last one is innermost": {lam(a(), lam(b(), bound(0))), of(1, a(), b())},
		"an App":                        {app(con(1), con(0)), a()},
		"an App of less":                {app(con(2), con(1)), of(1, b())},
		"an App of all":                 {app(app(con(2), con(1)), meta(0)), b()},
		"an App of a Lam":               {app(lam(b(), con(0)), meta(0)), a()},
		"an App to a Lam":               {app(con(2), lam(a(), bound(0))), of(1, b())},
		"an App of a variable":          {app(bound(2), meta(0)), b()},
		"behind a Lam, as ahead of it":  {app(app(con(2), lam(a(), bound(1))), app(bound(2), meta(0))), b()},
		"after two Lams":                {app(lam(a(), app(lam(b(), bound(1)), meta(0))), bound(0)), a()},
		"fields without a meaning":      {raw.Raw{Kind: raw.App, Type: of(9), Index: -4, Kids: []raw.Raw{{Kind: raw.Const, Type: of(-9), Index: 1}, {Kind: raw.Const, Type: b()}}}, a()},
		"a Lam with an index":           {raw.Raw{Kind: raw.Lam, Index: 77, Kids: []raw.Raw{con(0)}}, f},
	} {
		if got, e := raw.Infer(small(), ctx, c.r); e != api.OK || codeType(got) != codeType(c.want) {
			t.Errorf("%s: %s, %d; want %s", name, codeType(got), e, codeType(c.want))
		}
	}
}

func TestP7_2InferRefuses(t *testing.T) {
	none, long, apart := con(9), lam(of(2), con(0)), app(con(0), con(0))
	for name, c := range map[string]struct {
		r    raw.Raw
		want api.Errno
	}{
		"no such Const":                        {con(3), api.ErrNone},
		"no such Const, below 0":               {con(-1), api.ErrNone},
		"no such Meta":                         {meta(2), api.ErrNone},
		"no such Meta, of any size":            {meta(math.MaxInt), api.ErrNone},
		"no such variable":                     {bound(1), api.ErrNone},
		"no such variable, below 0":            {bound(math.MinInt), api.ErrNone},
		"no such variable in a Lam":            {lam(a(), bound(2)), api.ErrNone},
		"no such variable any more":            {app(lam(a(), bound(0)), bound(1)), api.ErrNone},
		"a base that isn't there":              {lam(of(2), con(0)), api.ErrLong},
		"a base below 0":                       {lam(of(-1), con(0)), api.ErrLong},
		"a base that isn't there, within":      {lam(of(0, of(1, of(2))), con(0)), api.ErrLong},
		"an App of a base type":                {app(con(0), con(0)), api.ErrType},
		"an App of a base type, at last":       {app(app(con(1), con(0)), con(0)), api.ErrType},
		"an App to another base":               {app(con(1), meta(0)), api.ErrType},
		"an App to a function":                 {app(con(1), con(1)), api.ErrType},
		"an App to one's type's base":          {app(con(2), con(0)), api.ErrType},
		"an App to another function":           {app(con(2), meta(1)), api.ErrType},
		"an App of a Lam to another":           {app(lam(a(), bound(0)), meta(0)), api.ErrType},
		"one's own function":                   {lam(of(0, a()), app(bound(0), bound(0))), api.ErrType},
		"wrong within a Lam":                   {lam(a(), app(con(1), meta(0))), api.ErrType},
		"wrong within a function":              {app(app(con(1), meta(0)), con(0)), api.ErrType},
		"wrong within an argument":             {app(con(1), app(con(1), meta(0))), api.ErrType},
		"not right":                            {raw.Raw{Kind: raw.App}, api.ErrArg},
		"not right, no kind":                   {raw.Raw{Kind: 5}, api.ErrArg},
		"not right, ahead of all":              {app(app(none, long), app(apart, raw.Raw{Kind: -1})), api.ErrArg},
		"not right, a Const's kid":             {with(con(0), con(0)), api.ErrArg},
		"too deep":                             {lams(60, con(0)), api.ErrArg},
		"too great":                            {bush(5001), api.ErrArg},
		"too great, in the same memory":        {doubled(60), api.ErrArg},
		"ErrNone, then ErrLong":                {app(none, long), api.ErrNone},
		"ErrLong, then ErrNone":                {app(long, none), api.ErrLong},
		"ErrNone, then ErrType":                {app(none, apart), api.ErrNone},
		"ErrType, then ErrNone":                {app(apart, none), api.ErrType},
		"ErrLong, then ErrType":                {app(long, apart), api.ErrLong},
		"ErrType, then ErrLong":                {app(apart, long), api.ErrType},
		"a Lam's type, ahead of its kid":       {lam(of(2), none), api.ErrLong},
		"a Lam's type, ahead of its kid's":     {lam(of(2), apart), api.ErrLong},
		"a Lam's type, ahead of what is in it": {lam(of(2), lam(a(), app(con(1), none))), api.ErrLong},
		"a Lam's size, behind its kid":         {lam(row(1000), none), api.ErrNone},
		"a Lam's size, behind its kid's type":  {lam(row(1000), apart), api.ErrType},
		"an App's kids, ahead of itself":       {app(con(0), none), api.ErrNone},
		"an App's kids, ahead of its type":     {app(con(0), long), api.ErrLong},
		"an outer Lam's type first":            {lam(of(2), raw.Raw{Kind: raw.Lam, Kids: []raw.Raw{none}}), api.ErrLong},
		"an inner Lam's type behind":           {app(none, lam(of(2), con(0))), api.ErrNone},
	} {
		if got, e := raw.Infer(small(), types(a()), c.r); e != c.want || !zeroType(got) {
			t.Errorf("%s: %s, %d; want %d", name, codeType(got), e, c.want)
		}
	}
}

func TestP7_2InferKeepsToTheLimits(t *testing.T) {
	w := term.World{Bases: 1, Consts: types(a(), row(999), row(1000), row(1001), of(0, row(1000)))}
	for name, c := range map[string]struct {
		r    raw.Raw
		want kind.Type
		e    api.Errno
	}{
		"a Lam's type of 999":             {lam(row(999), con(0)), of(0, row(999)), api.OK},
		"a Lam's type of 1000":            {lam(row(1000), con(0)), a(), api.ErrLong},
		"a Lam's type of 1001":            {lam(row(1001), con(0)), a(), api.ErrLong},
		"a Lam around one of 999":         {lam(a(), con(1)), row(1000), api.OK},
		"a Lam around one of 1000":        {lam(a(), con(2)), a(), api.ErrLong},
		"a Lam's kid of 1000":             {lam(a(), lam(a(), con(1))), a(), api.ErrLong},
		"Lams of 500 and 499":             {lam(row(500), lam(row(499), con(0))), of(0, row(500), row(499)), api.OK},
		"Lams of 500 and 500":             {lam(row(500), lam(row(500), con(0))), a(), api.ErrLong},
		"Lams of 500 and 500, applied":    {app(lam(row(500), lam(row(500), con(0))), con(0)), a(), api.ErrLong},
		"a head of 1000":                  {con(2), row(1000), api.OK},
		"a head of 1001":                  {con(3), a(), api.ErrLong},
		"a head of 1001, applied":         {app(con(3), con(0)), a(), api.ErrLong},
		"a head of 1001, as an argument":  {app(con(0), con(3)), a(), api.ErrLong},
		"a head of 1000, applied":         {app(con(2), con(0)), row(999), api.OK},
		"a head of 1001, by its argument": {app(con(4), con(2)), a(), api.ErrLong},
		"a Lam's type of depth 60":        {lam(stack(60), con(0)), of(0, stack(60)), api.OK},
		"a Lam's type of depth 61":        {lam(stack(61), con(0)), a(), api.ErrLong},
		"depth 60":                        {lams(59, con(0)), row(60), api.OK},
		"depth 61":                        {lams(60, con(0)), a(), api.ErrArg},
		"59 arguments":                    {leftward(59, con(2)), a(), api.ErrType},
		"60 arguments":                    {leftward(60, con(2)), a(), api.ErrArg},
	} {
		if got, e := raw.Infer(w, nil, c.r); e != c.e || codeType(got) != codeType(c.want) {
			t.Errorf("%s: %.60s, %d; want %.60s, %d", name, codeType(got), e, codeType(c.want), c.e)
		}
	}
	w = term.World{Bases: 1, Consts: types(of(0, a(), a()), a())}
	for _, c := range []struct {
		r raw.Raw
		e api.Errno
	}{
		{bushOf(4997), api.OK},
		{lams(3, bushOf(4997)), api.OK},
		{lams(4, bushOf(4997)), api.ErrArg},
		{bushOf(5001), api.ErrArg},
	} {
		if _, e := raw.Infer(w, nil, c.r); e != c.e {
			t.Errorf("size %d: %d; want %d", raw.Size(c.r), e, c.e)
		}
	}
}

// bushOf: a raw term of that size, which is 1 and some 4s, of the type a,
// where Const 0 is a -> a -> a, and Const 1 is a; it isn't deep.
func bushOf(size int) raw.Raw {
	if size == 1 {
		return con(1)
	}
	// Each 4 is two Apps, a Const 0, and one argument more.
	first := (size-5)/8*4 + 1
	return app(app(con(0), bushOf(first)), bushOf(size-3-first))
}

func TestP7_2InferAsksNothingOfTheWorldButWhatItNeeds(t *testing.T) {
	wrong := of(-7, of(99))
	w := term.World{Bases: 1, Consts: types(wrong, a()), Metas: types(wrong, row(5000))}
	if got, e := raw.Infer(w, types(row(5000), wrong, a()), app(lam(a(), bound(0)), bound(0))); e != api.OK || codeType(got) != codeType(a()) {
		t.Error(codeType(got), e)
	}
	if got, e := raw.Infer(w, nil, con(0)); e != api.OK || codeType(got) != codeType(wrong) {
		t.Error(codeType(got), e)
	}
	for _, n := range odd() {
		e := api.ErrLong
		if n > 0 {
			e = api.OK
		}
		if got, is := raw.Infer(term.World{Bases: n, Consts: types(a())}, nil, lam(a(), bound(0))); is != e || e != api.OK && !zeroType(got) {
			t.Error(n, codeType(got), is)
		}
	}
	if got, e := raw.Infer(term.World{}, nil, raw.Raw{}); e != api.ErrNone || !zeroType(got) {
		t.Error(codeType(got), e)
	}
}

// machine finds a type by going through a raw term with a stack of the types
// that were found, and one of the binders around.
type machine struct {
	w     term.World
	ctx   []kind.Type
	found []kind.Type
	err   api.Errno
}

// run goes through r, unless there was an error.
func (m *machine) run(r raw.Raw) {
	if m.err != api.OK {
		return
	}
	if r.Kind == raw.Lam {
		if !kind.Right(r.Type, m.w.Bases) {
			m.err = api.ErrLong
			return
		}
		m.ctx = append(slices.Clip(m.ctx), r.Type)
	}
	for _, x := range r.Kids {
		m.run(x)
	}
	if m.err == api.OK {
		m.err = m.end(r)
	}
}

// end does what is to be done when r's kids are behind.
func (m *machine) end(r raw.Raw) api.Errno {
	n := len(m.found)
	var t kind.Type
	switch r.Kind {
	case raw.Lam:
		t = of(m.found[n-1].Base, slices.Concat(types(r.Type), m.found[n-1].Args)...)
		m.found, m.ctx = m.found[:n-1], m.ctx[:len(m.ctx)-1]
	case raw.App:
		f, x := m.found[n-2], m.found[n-1]
		if len(f.Args) == 0 || codeType(f.Args[0]) != codeType(x) {
			return api.ErrType
		}
		t = of(f.Base, f.Args[1:]...)
		m.found = m.found[:n-2]
	default:
		outwards := slices.Clone(m.ctx)
		slices.Reverse(outwards)
		l := [][]kind.Type{outwards, m.w.Consts, m.w.Metas}[r.Kind]
		if r.Index < 0 || r.Index >= len(l) {
			return api.ErrNone
		}
		t = l[r.Index]
	}
	if kind.Size(t) > api.MaxItems {
		return api.ErrLong
	}
	m.found = append(m.found, t)
	return api.OK
}

// inferred: what the machine finds of a right raw term.
func inferred(w term.World, ctx []kind.Type, r raw.Raw) (kind.Type, api.Errno) {
	m := machine{w: w, ctx: ctx}
	m.run(r)
	if m.err != api.OK {
		return kind.Type{}, m.err
	}
	return m.found[0], api.OK
}

func TestP7_2InferOfAllSmallOnes(t *testing.T) {
	heads := []raw.Raw{bound(0), bound(1), bound(2), con(0), con(1), con(2), meta(1), con(5)}
	told := make(map[api.Errno]int)
	for _, ctx := range [][]kind.Type{nil, types(of(0, a())), types(of(1, a()), a())} {
		for _, r := range upTo(5, heads, a(), of(0, a()), of(2)) {
			want, e := inferred(small(), ctx, r)
			told[e]++
			if got, is := raw.Infer(small(), ctx, r); is != e || codeType(got) != codeType(want) {
				t.Fatalf("Infer(%s): %s, %d; want %s, %d", code(r), codeType(got), is, codeType(want), e)
			}
		}
	}
	for _, e := range []api.Errno{api.OK, api.ErrNone, api.ErrLong, api.ErrType} {
		if told[e] < 500 {
			t.Errorf("%d was told %d times", e, told[e])
		}
	}
}

func TestP7_4AStepKeepsTheType(t *testing.T) {
	heads := []raw.Raw{bound(0), bound(1), con(0), con(1), con(2)}
	steps := 0
	for _, ctx := range [][]kind.Type{nil, types(a(), of(0, a()))} {
		for _, r := range upTo(6, heads, a(), of(0, a())) {
			u, e := raw.Infer(small(), ctx, r)
			if e != api.OK {
				continue
			}
			// What has a type comes to an end.
			for s, ok := raw.Step(r); ok; s, ok = raw.Step(s) {
				steps++
				if v, e := raw.Infer(small(), ctx, s); e != api.OK || codeType(v) != codeType(u) {
					t.Fatalf("%s is of %s, but %s of %s, %d", code(r), codeType(u), code(s), codeType(v), e)
				}
			}
		}
	}
	if steps < 500 {
		t.Error("too few steps:", steps)
	}
}

// terms: the terms of that type, of at most that depth, in the small world and
// that context.
func terms(ctx []kind.Type, u kind.Type, depth int) []term.Term {
	if depth == 0 {
		return nil
	}
	within := slices.Concat(ctx, u.Args)
	var all []term.Term
	for k := range 3 {
		for i := range 8 {
			of, e := term.HeadType(small(), within, head(k, i))
			if e != api.OK || of.Base != u.Base {
				continue
			}
			lists := [][]term.Term{nil}
			for _, arg := range of.Args {
				var more [][]term.Term
				for _, l := range lists {
					for _, x := range terms(within, arg, depth-1) {
						more = append(more, append(slices.Clone(l), x))
					}
				}
				lists = more
			}
			for _, l := range lists {
				all = append(all, tm(u.Args, head(k, i), l...))
			}
		}
	}
	return all
}

func TestP7_4FromHasTheTermsTypeAndNoStep(t *testing.T) {
	f, found := of(0, a()), 0
	for _, ctx := range [][]kind.Type{nil, types(f, b())} {
		for _, u := range types(a(), b(), f, of(1, f), of(0, b(), f)) {
			for _, x := range terms(ctx, u, 4) {
				found++
				if e := term.Check(small(), ctx, x, u); e != api.OK {
					t.Fatal("the term isn't of the type", e)
				}
				r := raw.From(x)
				if got, e := raw.Infer(small(), ctx, r); e != api.OK || codeType(got) != codeType(u) {
					t.Fatalf("%s: %s, %d; want %s", code(r), codeType(got), e, codeType(u))
				}
				if s, ok := raw.Step(r); ok || !same(s, r) {
					t.Fatalf("%s has a step", code(r))
				}
				if raw.Loose(r) != term.Loose(x) {
					t.Fatalf("%s has other loose indexes than the term", code(r))
				}
			}
		}
	}
	if found < 500 {
		t.Error("too few terms:", found)
	}
}

func TestTheChaptersExample(t *testing.T) {
	w := term.World{Bases: 1, Consts: types(a())}
	r := raw.Call(raw.Bind(raw.Head(raw.Bound, 0), kind.Of(0)), raw.Head(raw.Const, 0))
	if !same(r, app(lam(a(), bound(0)), con(0))) {
		t.Error(code(r))
	}
	if u, e := raw.Infer(w, nil, r); e != api.OK || codeType(u) != codeType(a()) {
		t.Error(codeType(u), e)
	}
	if s, ok := raw.Step(r); !ok || !same(s, con(0)) {
		t.Error(code(s), ok)
	}
}
