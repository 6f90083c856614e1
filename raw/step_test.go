package raw_test

import (
	"math"
	"slices"
	"testing"

	"filigree/api"
	"filigree/kind"
	"filigree/raw"
	"filigree/term"
)

// A named one is a raw term whose variables point at their Lams, not by how
// many are between: what is put for one needs no change wherever it stands.
type named struct {
	raw.Raw
	binder *named // of a variable: its Lam; nil, if it points beyond
	kids   []*named
}

// name: r with names, where these Lams are around it. (A Bound one has no kids.)
func name(r raw.Raw, around []*named) *named {
	n := &named{Raw: r}
	if r.Kind == raw.Bound {
		if r.Index >= 0 && r.Index < len(around) {
			n.binder = around[len(around)-1-r.Index]
		} else if r.Index >= 0 {
			n.Index = r.Index - len(around)
		}
		return n
	}
	if r.Kind == raw.Lam {
		around = append(slices.Clone(around), n)
	}
	for _, x := range r.Kids {
		n.kids = append(n.kids, name(x, around))
	}
	return n
}

// unname: n with indexes, where these Lams are around it.
func unname(n *named, around []*named) raw.Raw {
	if n.Kind == raw.Bound {
		switch {
		case n.binder != nil:
			return bound(len(around) - 1 - slices.Index(around, n.binder))
		case n.Index >= 0:
			return bound(n.Index + len(around))
		}
		return bound(n.Index)
	}
	if n.Kind == raw.Lam {
		around = append(slices.Clone(around), n)
	}
	r := raw.Raw{Kind: n.Kind, Type: n.Type, Index: n.Index}
	for _, x := range n.kids {
		r.Kids = append(r.Kids, unname(x, around))
	}
	return r
}

// replace: n with a new one of arg for each variable of that Lam.
func replace(n, lam *named, arg raw.Raw) *named {
	if n.binder == lam {
		return name(arg, nil)
	}
	for i, x := range n.kids {
		n.kids[i] = replace(x, lam, arg)
	}
	return n
}

// substituted: what Subst tells, by names.
func substituted(body, arg raw.Raw) raw.Raw {
	outer := &named{Raw: raw.Raw{Kind: raw.Lam}}
	return unname(replace(name(body, []*named{outer}), outer, arg), nil)
}

func TestP7_3Subst(t *testing.T) {
	for _, c := range []struct{ body, arg, want raw.Raw }{
		{bound(0), con(5), con(5)},
		{bound(0), bound(3), bound(3)},
		{bound(1), con(5), bound(0)},
		{bound(4), con(5), bound(3)},
		{con(0), bound(3), con(0)},
		{meta(0), bound(3), meta(0)},
		{app(bound(0), bound(0)), app(con(1), bound(2)), app(app(con(1), bound(2)), app(con(1), bound(2)))},
		{app(bound(2), app(bound(0), bound(1))), con(7), app(bound(1), app(con(7), bound(0)))},
		{lam(a(), bound(0)), con(5), lam(a(), bound(0))},
		{lam(b(), bound(1)), con(5), lam(b(), con(5))},
		{lam(a(), bound(1)), bound(4), lam(a(), bound(5))},
		{lam(a(), bound(2)), bound(4), lam(a(), bound(1))},
		{lam(a(), bound(3)), bound(4), lam(a(), bound(2))},
		{lams(3, bound(3)), bound(0), lams(3, bound(3))},
		{lams(3, bound(2)), con(1), lams(3, bound(2))},
		{lams(3, bound(4)), con(1), lams(3, bound(3))},
		{lam(a(), app(bound(1), bound(0))), lam(b(), app(bound(0), bound(1))), lam(a(), app(lam(b(), app(bound(0), bound(2))), bound(0)))},
		{app(lam(a(), bound(1)), bound(0)), bound(0), app(lam(a(), bound(1)), bound(0))},
		{bound(-1), con(5), bound(-1)},
		{lam(a(), bound(-1)), con(5), lam(a(), bound(-1))},
		{bound(math.MinInt), con(5), bound(math.MinInt)},
		{lam(a(), bound(1)), bound(-1), lam(a(), bound(-1))},
		{lam(a(), bound(1)), bound(math.MinInt), lam(a(), bound(math.MinInt))},
		// A Bound one has no kids there.
		{with(bound(0), con(1)), con(5), con(5)},
		{with(bound(1), bound(0)), con(5), bound(0)},
		{lam(a(), with(bound(0), bound(1))), con(5), lam(a(), bound(0))},
		{with(bound(-1), bound(0)), con(5), bound(-1)},
		{bound(0), with(bound(3), bound(1), con(2)), bound(3)},
		{lam(a(), bound(1)), lam(b(), with(bound(0), con(2))), lam(a(), lam(b(), bound(0)))},
		{with(con(0), bound(0), bound(1)), con(5), with(con(0), con(5), bound(0))},
		// Up to 1000000 an index is what it is, whatever is on its way.
		{bound(1000000), con(5), bound(999999)},
		{bound(1000001), con(5), bound(1000000)},
		{lam(a(), bound(1000001)), con(5), lam(a(), bound(1000000))},
		{lam(a(), bound(1)), bound(999999), lam(a(), bound(1000000))},
		{bound(0), bound(1000000), bound(1000000)},
		{con(1000000), con(5), con(1000000)},
		{bound(1), bound(math.MaxInt), bound(0)},
		{lam(a(), bound(0)), bound(math.MaxInt), lam(a(), bound(0))},
		{lams(levels, bound(levels)), bound(7), lams(levels, bound(levels+7))},
		{lams(levels, bound(levels+1)), bound(7), lams(levels, bound(levels))},
		{leftward(levels, bound(0)), bound(7), leftward(levels, bound(7))},
		{bound(0), lams(levels, bound(levels)), lams(levels, bound(levels))},
		{lam(a(), bound(1)), lams(levels, bound(levels)), lam(a(), lams(levels, bound(levels+1)))},
	} {
		if got := raw.Subst(c.body, c.arg); !same(got, c.want) {
			t.Errorf("Subst(%.60s, %.60s): %.80s; want %.80s", code(c.body), code(c.arg), code(got), code(c.want))
		}
	}
}

func TestP7_3SubstOfAllSmallOnes(t *testing.T) {
	args := upTo(4, []raw.Raw{bound(0), bound(1), bound(3), con(0)}, a())
	for _, body := range upTo(5, []raw.Raw{bound(0), bound(1), bound(2), con(0)}, a()) {
		for _, arg := range args {
			if got, want := raw.Subst(body, arg), substituted(body, arg); !same(got, want) {
				t.Fatalf("Subst(%s, %s): %s; want %s", code(body), code(arg), code(got), code(want))
			}
		}
	}
	odd := slices.Concat(wrong(), []raw.Raw{rich(), bound(0), lam(a(), bound(1)), bound(-2)})
	for _, body := range odd {
		for _, arg := range odd {
			if got, want := raw.Subst(body, arg), substituted(body, arg); !same(got, want) {
				t.Fatalf("Subst(%s, %s): %s; want %s", code(body), code(arg), code(got), code(want))
			}
		}
	}
}

func TestP7_3Step(t *testing.T) {
	id := lam(a(), bound(0))
	redex := app(id, con(3))
	for name, c := range map[string]struct {
		r, want raw.Raw
		ok      bool
	}{
		"itself":                         {redex, con(3), true},
		"itself, ahead of the function":  {app(lam(a(), redex), con(4)), redex, true},
		"itself, ahead of the argument":  {app(id, redex), redex, true},
		"itself, twice":                  {app(lam(a(), app(bound(0), bound(0))), redex), app(redex, redex), true},
		"itself, of loose ones":          {app(lam(a(), app(bound(0), bound(2))), bound(4)), app(bound(4), bound(1)), true},
		"under a Lam":                    {lam(b(), redex), lam(b(), con(3)), true},
		"under a Lam, of its variable":   {lam(b(), app(lam(a(), lam(a(), app(bound(1), bound(2)))), bound(0))), lam(b(), lam(a(), app(bound(1), bound(1)))), true},
		"the function first":             {app(redex, redex), app(con(3), redex), true},
		"then the argument":              {app(con(3), redex), app(con(3), con(3)), true},
		"of the function's argument":     {app(app(con(0), redex), redex), app(app(con(0), con(3)), redex), true},
		"the outer of the function":      {app(app(app(id, redex), redex), redex), app(app(redex, redex), redex), true},
		"two arguments":                  {app(app(lam(a(), lam(b(), bound(1))), con(3)), con(4)), app(lam(b(), con(3)), con(4)), true},
		"to itself":                      {app(lam(a(), app(bound(0), bound(0))), lam(a(), app(bound(0), bound(0)))), app(lam(a(), app(bound(0), bound(0))), lam(a(), app(bound(0), bound(0)))), true},
		"one is made":                    {app(lam(of(0, a()), app(bound(0), con(1))), id), app(id, con(1)), true},
		"a variable that isn't there":    {app(lam(a(), con(9)), redex), con(9), true},
		"none, of a head":                {con(3), con(3), false},
		"none, of a Lam":                 {id, id, false},
		"none, of a function's variable": {app(bound(0), id), app(bound(0), id), false},
		"none, of Meta":                  {app(app(meta(0), id), con(1)), app(app(meta(0), id), con(1)), false},
		"none, of eta":                   {lam(a(), app(con(1), bound(0))), lam(a(), app(con(1), bound(0))), false},
		"of many levels":                 {lams(levels, redex), lams(levels, con(3)), true},
		"of many levels, leftward":       {leftward(levels, redex), leftward(levels, con(3)), true},
		"of many levels, rightward":      {rightward(levels, redex), rightward(levels, con(3)), true},
		"of many levels, none":           {rightward(levels, con(3)), rightward(levels, con(3)), false},
		"of many levels, substituted":    {app(lam(a(), rightward(levels, bound(0))), con(3)), rightward(levels, con(3)), true},
		"an App of three":                {with(raw.Raw{Kind: raw.App}, id, con(1), redex), with(raw.Raw{Kind: raw.App}, id, con(1), con(3)), true},
		"an App of one":                  {with(raw.Raw{Kind: raw.App}, id), with(raw.Raw{Kind: raw.App}, id), false},
		"an App of a Lam of none":        {app(raw.Raw{Kind: raw.Lam}, con(1)), app(raw.Raw{Kind: raw.Lam}, con(1)), false},
		"an App of a Lam of two":         {app(with(id, bound(0), redex), con(1)), app(with(id, bound(0), con(3)), con(1)), true},
		"kids of no kind":                {raw.Raw{Kind: 7, Index: 2, Kids: []raw.Raw{con(1), redex, redex}}, raw.Raw{Kind: 7, Index: 2, Kids: []raw.Raw{con(1), con(3), redex}}, true},
		"a Const's kids":                 {with(con(0), redex), with(con(0), con(3)), true},
		"a Bound one's kids elsewhere":   {app(redex, with(bound(1), con(4))), app(con(3), with(bound(1), con(4))), true},
		"a Bound one's kids there":       {app(lam(a(), app(bound(0), with(bound(1), con(4)))), con(3)), app(con(3), bound(0)), true},
		"fields without a meaning": {
			raw.Raw{Kind: raw.App, Type: of(3, b()), Index: 8, Kids: []raw.Raw{redex, {Kind: raw.Const, Type: of(2, b())}}},
			raw.Raw{Kind: raw.App, Type: of(3, b()), Index: 8, Kids: []raw.Raw{con(3), {Kind: raw.Const, Type: of(2, b())}}}, true,
		},
	} {
		if got, ok := raw.Step(c.r); ok != c.ok || !same(got, c.want) {
			t.Errorf("%s: %.100s, %t; want %.100s, %t", name, code(got), ok, code(c.want), c.ok)
		}
	}
}

// stepped: as the chapter words Step: that of itself; else that of the first
// of its kids that has one.
func stepped(r raw.Raw) (raw.Raw, bool) {
	if r.Kind == raw.App && len(r.Kids) == 2 && r.Kids[0].Kind == raw.Lam && len(r.Kids[0].Kids) == 1 {
		return substituted(r.Kids[0].Kids[0], r.Kids[1]), true
	}
	for i, x := range r.Kids {
		if made, ok := stepped(x); ok {
			r.Kids = slices.Clone(r.Kids)
			r.Kids[i] = made
			return r, true
		}
	}
	return r, false
}

func TestP7_3StepOfAllSmallOnes(t *testing.T) {
	done := 0
	for _, x := range slices.Concat(upTo(7, []raw.Raw{bound(0), bound(1), bound(2), con(0)}, a()), wrong(), []raw.Raw{rich()}) {
		want, ok := stepped(x)
		if ok {
			done++
		}
		if got, is := raw.Step(x); is != ok || !same(got, want) {
			t.Fatalf("Step(%s): %s, %t; want %s, %t", code(x), code(got), is, code(want), ok)
		}
	}
	if done < 1000 {
		t.Error("too few steps:", done)
	}
}

// looseOf: the loose indexes of r, that stands within so many of its own
// binders, as they come.
func looseOf(r raw.Raw, within int) []int {
	if r.Kind == raw.Bound {
		if r.Index >= within {
			return []int{r.Index - within}
		}
		return nil
	}
	if r.Kind == raw.Lam {
		within++
	}
	var l []int
	for _, x := range r.Kids {
		l = append(l, looseOf(x, within)...)
	}
	return l
}

func TestP7_3Loose(t *testing.T) {
	for _, c := range []struct {
		r    raw.Raw
		want int
	}{
		{raw.Raw{}, 1},
		{bound(0), 1},
		{bound(4), 5},
		{con(4), 0},
		{meta(4), 0},
		{lam(a(), bound(0)), 0},
		{lam(a(), bound(1)), 1},
		{lam(a(), bound(5)), 5},
		{lams(3, bound(2)), 0},
		{lams(3, bound(3)), 1},
		{app(bound(1), bound(3)), 4},
		{app(bound(3), bound(1)), 4},
		{app(lam(a(), bound(3)), bound(1)), 3},
		{app(lam(a(), bound(0)), bound(0)), 1},
		{bound(-1), 0},
		{bound(math.MinInt), 0},
		{lam(a(), bound(math.MinInt)), 0},
		{bound(998), 999},
		{bound(999), 1000},
		{bound(1000), 1001},
		{bound(1001), 1001},
		{lam(a(), bound(1000)), 1000},
		{lam(a(), bound(1001)), 1001},
		{lam(a(), bound(1002)), 1001},
		{app(bound(math.MaxInt), bound(2)), 1001},
		{lam(a(), bound(math.MaxInt)), 1001},
		{lams(levels, bound(levels-1)), 0},
		{lams(levels, bound(levels+2)), 3},
		{leftward(levels, bound(7)), 8},
		{rightward(levels, bound(7)), 8},
		// What kids a Bound one has counts nothing; others' count.
		{with(bound(2), bound(7)), 3},
		{with(bound(-1), bound(7)), 0},
		{lam(a(), with(bound(0), bound(7))), 0},
		{with(con(2), bound(7)), 8},
		{with(meta(2), con(1), lam(a(), bound(7))), 7},
		{raw.Raw{Kind: 6, Index: 9, Kids: []raw.Raw{bound(2), bound(1)}}, 3},
		{raw.Raw{Kind: -1, Index: 9}, 0},
		{raw.Raw{Kind: raw.App, Index: 9, Kids: []raw.Raw{con(0), con(0), bound(5)}}, 6},
		{raw.Raw{Kind: raw.Lam, Index: 9}, 0},
		{rich(), 1},
	} {
		if got := raw.Loose(c.r); got != c.want {
			t.Errorf("Loose(%.80s): %d; want %d", code(c.r), got, c.want)
		}
	}
	for _, x := range slices.Concat(some(), wrong()) {
		if got, want := raw.Loose(x), min(slices.Max(append(looseOf(x, 0), -1)), api.MaxItems)+1; got != want {
			t.Fatalf("Loose(%s): %d; want %d", code(x), got, want)
		}
	}
}

// What is substituted into points beyond no further than the two did.
func TestP7_3SubstAndLooseAgree(t *testing.T) {
	args := upTo(3, []raw.Raw{bound(0), bound(2), con(0)}, a())
	for _, body := range upTo(4, []raw.Raw{bound(0), bound(1), bound(2), con(0)}, a()) {
		for _, arg := range args {
			here, beyond := slices.Contains(looseOf(body, 0), 0), max(raw.Loose(body)-1, 0)
			if here {
				beyond = max(beyond, raw.Loose(arg))
			}
			if got := raw.Loose(raw.Subst(body, arg)); got != beyond {
				t.Fatalf("Subst(%s, %s) has the loose %d; want %d", code(body), code(arg), got, beyond)
			}
		}
	}
}

func head(k, i int) term.Head { return term.Head{Kind: k, Index: i} }

// tm: a term of these binders, head and arguments.
func tm(binds []kind.Type, h term.Head, args ...term.Term) term.Term {
	return term.Term{Binds: binds, Head: h, Args: args}
}

func TestP7_3From(t *testing.T) {
	f := of(0, a())
	c0, b0 := tm(nil, head(1, 0)), tm(nil, head(0, 0))
	deep, want := c0, con(0)
	for range levels {
		deep, want = tm(types(a()), head(1, 1), deep), lam(a(), app(con(1), want))
	}
	for _, c := range []struct {
		t    term.Term
		want raw.Raw
	}{
		{term.Term{}, bound(0)},
		{c0, con(0)},
		{tm(nil, head(2, 7)), meta(7)},
		{tm(nil, head(0, 7)), bound(7)},
		{tm(types(a()), head(0, 0)), lam(a(), bound(0))},
		{tm(types(a(), f), head(0, 1)), lam(a(), lam(f, bound(1)))},
		{tm(nil, head(1, 1), c0), app(con(1), con(0))},
		{tm(nil, head(1, 1), c0, b0), app(app(con(1), con(0)), bound(0))},
		{tm(types(f, b()), head(0, 1), tm(types(a()), head(0, 3), b0), c0), lam(f, lam(b(), app(app(bound(1), lam(a(), app(bound(3), bound(0)))), con(0))))},
		{tm(nil, head(1, -1)), con(-1)},
		{tm(types(of(-1)), head(0, math.MaxInt)), lam(of(-1), bound(math.MaxInt))},
		{term.Eta(head(1, 0), of(0, f)), lam(f, app(con(0), lam(a(), app(bound(1), bound(0)))))},
		{deep, want},
		{tm(nil, head(1, 0), slices.Repeat([]term.Term{tm(nil, head(1, 1))}, levels)...), leftward(levels, con(0))},
		{tm(slices.Repeat(types(a()), levels), head(1, 0)), lams(levels, con(0))},
	} {
		if got := raw.From(c.t); !same(got, c.want) {
			t.Errorf("%.100s; want %.100s", code(got), code(c.want))
		}
	}
}
