package norm_test

import (
	"slices"
	"testing"

	"filigree/api"
	"filigree/budget"
	"filigree/kind"
	"filigree/norm"
	"filigree/raw"
	"filigree/term"
)

func TestTheChaptersExample(t *testing.T) {
	w := term.World{Bases: 1, Consts: types(fn())}
	r := app(lam(fn(), lam(a(), app(bound(1), app(bound(1), bound(0))))), con(0))
	if got, e := norm.Of(w, nil, r); e != api.OK || !same(got, bind(c(0, c(0, v(0))), a())) {
		t.Error(code(got), e)
	}
	if got, e := norm.Of(w, nil, con(0)); e != api.OK || !same(got, bind(c(0, v(0)), a())) {
		t.Error(code(got), e)
	}
	if n, e := norm.Cost(w, nil, con(0)); e != api.OK || n != 2 {
		t.Error(n, e)
	}
}

func TestP8_1FormsAndTheirCosts(t *testing.T) {
	ctx := types(b(), fn(), a())
	eta := bind(c(3, bind(v(1, v(0)), a())), fn())
	for name, x := range map[string]struct {
		r    raw.Raw
		want term.Term
		cost int
	}{
		"a constant":                      {z(), c(0), 1},
		"a metavariable":                  {meta(0), m(0), 1},
		"a variable":                      {bound(0), v(0), 1},
		"a variable further out":          {bound(2), v(2), 1},
		"a function":                      {s(), bind(c(1, v(0)), a()), 2},
		"a function of two":               {p(), bind(c(2, v(1), v(0)), a(), a()), 3},
		"a function of a function":        {con(3), eta, 3},
		"a metavariable that is one":      {meta(1), bind(m(1, v(0)), a()), 2},
		"a variable that is one":          {bound(1), bind(v(2, v(0)), a()), 2},
		"a Lam":                           {lam(a(), z()), bind(c(0), a()), 1},
		"a Lam's variable":                {lam(b(), bound(0)), bind(v(0), b()), 1},
		"a Lam of a function":             {lam(b(), s()), bind(c(1, v(0)), b(), a()), 2},
		"a Lam's variable, a function":    {lam(fn(), bound(0)), bind(v(1, v(0)), fn(), a()), 2},
		"Lams":                            {lam(b(), lam(fn(), bound(1))), bind(v(1), b(), fn()), 1},
		"past a Lam":                      {lam(b(), bound(1)), bind(v(1), b()), 1},
		"an App":                          {app(s(), z()), c(1, c(0)), 2 + 1 + 3},
		"an App of two":                   {app(p(), z(), meta(0)), c(2, c(0), m(0)), 3 + 1 + 4 + 1 + 4},
		"an App of the first of two":      {app(p(), z()), bind(c(2, c(0), v(0)), a()), 3 + 1 + 4},
		"an App of a Lam":                 {app(lam(a(), bound(0)), z()), c(0), 1 + 1 + 2},
		"an App of a Lam that drops":      {app(lam(a(), z()), meta(0)), c(0), 1 + 1 + 1},
		"what is dropped costs":           {app(lam(fn(), z()), s()), c(0), 1 + 2 + 1},
		"an App to a function":            {app(con(3), s()), c(3, bind(c(1, v(0)), a())), 3 + 2 + 1 + 2 + 3},
		"an App of a variable":            {app(bound(1), bound(0)), v(1, v(0)), 2 + 1 + 3},
		"an App within a Lam":             {lam(a(), app(bound(2), bound(0))), bind(v(2, v(0)), a()), 2 + 1 + 3},
		"a Lam's kid, put":                {lam(a(), app(lam(a(), lam(b(), bound(1))), bound(1))), bind(v(2), a(), b()), 1 + 1 + 2},
		"a constant function, by a Lam":   {lam(a(), app(s(), bound(0))), bind(c(1, v(0)), a()), 2 + 1 + 3},
		"a function's first variable":     {app(two(a()), s()), bind(c(1, c(1, v(0))), a()), (2 + (2 + 1 + 3) + (2 + 2)) + 2 + (3 + 3 + 4)},
		"a variable from the context put": {app(lam(fn(), app(bound(0), bound(1))), bound(1)), v(1, v(0)), (2 + 1 + 3) + 2 + (2 + 3)},
	} {
		got, e := norm.Of(small(), ctx, x.r)
		if e != api.OK || !same(got, x.want) {
			t.Errorf("%s: %s, %d; want %s", name, code(got), e, code(x.want))
		}
		if n, e := norm.Cost(small(), ctx, x.r); e != api.OK || n != x.cost {
			t.Errorf("%s costs %d, %d; want %d", name, n, e, x.cost)
		}
		for n := range x.cost + 3 {
			units := budget.New(n)
			got, e := norm.Long(small(), ctx, x.r, units)
			if n < x.cost && (e != api.ErrFuel || !zero(got) || units.Left() != 0 || !units.Dry()) {
				t.Errorf("%s, with %d: %s, %d, %d are left", name, n, code(got), e, units.Left())
			}
			if n >= x.cost && (e != api.OK || !same(got, x.want) || units.Left() != n-x.cost || units.Dry()) {
				t.Errorf("%s, with %d: %s, %d, %d are left", name, n, code(got), e, units.Left())
			}
		}
	}
}

// deep: a raw term of that depth, s (s (.. z)).
func deep(depth int) raw.Raw { return times(depth-1, s(), z()) }

// wrongRaw: a raw term that isn't right.
func wrongRaw() raw.Raw { return raw.Raw{Kind: raw.Lam} }

func TestP8_1Errors(t *testing.T) {
	wrong := app(z(), z())
	few := term.World{Bases: 1, Consts: types(a(), b())}
	many := term.World{Bases: 1, Consts: rows(401), Metas: rows(600)}
	for name, x := range map[string]struct {
		w    term.World
		ctx  []kind.Type
		r    raw.Raw
		want api.Errno
	}{
		"a world's constant isn't right":     {few, nil, z(), api.ErrArg},
		"a world's metavariable isn't right": {term.World{Bases: 1, Consts: rows(1), Metas: types(of(0, of(-1)))}, nil, z(), api.ErrArg},
		"a world of too many":                {many, nil, z(), api.ErrArg},
		"a world of many":                    {term.World{Bases: 1, Consts: rows(400), Metas: rows(600)}, nil, meta(599), api.OK},
		"a context of too many":              {small(), rows(901), z(), api.ErrArg},
		"a context of many":                  {small(), rows(900), bound(899), api.OK},
		"a context's first isn't right":      {small(), types(of(2), a()), z(), api.ErrArg},
		"a context's last isn't right":       {small(), types(a(), of(0, of(-1))), z(), api.ErrArg},
		"a context's type is too great":      {small(), types(row(1001)), z(), api.ErrArg},
		"a context's type is great":          {small(), types(row(1000)), bound(0), api.OK},
		"a raw term that isn't right":        {small(), nil, wrongRaw(), api.ErrArg},
		"one that is too deep":               {small(), nil, deep(61), api.ErrArg},
		"one that is deep":                   {small(), nil, deep(60), api.OK},
		"no such constant":                   {small(), nil, con(5), api.ErrNone},
		"no such constant, below 0":          {small(), nil, con(-1), api.ErrNone},
		"no such metavariable":               {small(), nil, meta(2), api.ErrNone},
		"no such variable":                   {small(), rows(2), bound(2), api.ErrNone},
		"no such variable within":            {small(), rows(2), lam(a(), bound(3)), api.ErrNone},
		"a Lam's type isn't right":           {small(), nil, lam(of(2), z()), api.ErrLong},
		"a type is too great":                {small(), nil, lam(row(999), lam(a(), z())), api.ErrLong},
		"a type is great":                    {small(), nil, lam(row(998), lam(a(), z())), api.OK},
		"no function":                        {small(), nil, wrong, api.ErrType},
		"another argument":                   {small(), nil, app(s(), s()), api.ErrType},
		"the world ahead of the type":        {few, nil, wrong, api.ErrArg},
		"the context ahead of the type":      {small(), types(of(2)), wrong, api.ErrArg},
	} {
		b := budget.New(5000)
		if got, e := norm.Long(x.w, x.ctx, x.r, b); e != x.want || (e != api.OK && (!zero(got) || b.Left() != 5000 || b.Dry())) {
			t.Errorf("Long, %s: %s, %d, %d are left", name, code(got), e, b.Left())
		}
		if got, e := norm.Of(x.w, x.ctx, x.r); e != x.want || (e != api.OK && !zero(got)) {
			t.Errorf("Of, %s: %s, %d", name, code(got), e)
		}
		if n, e := norm.Cost(x.w, x.ctx, x.r); e != x.want || (n == 0) != (e != api.OK) {
			t.Errorf("Cost, %s: %d, %d", name, n, e)
		}
		if got, e := norm.Long(x.w, x.ctx, x.r, nil); e != api.ErrArg || !zero(got) {
			t.Errorf("%s, without a budget: %s, %d", name, code(got), e)
		}
		// What is wrong is told ahead of what there are no units for.
		b = budget.New(0)
		if _, e := norm.Long(x.w, x.ctx, x.r, b); x.want != api.OK && (e != x.want || b.Dry()) || x.want == api.OK && (e != api.ErrFuel || !b.Dry()) {
			t.Errorf("%s, without units: %d, %t", name, e, b.Dry())
		}
	}
}

// The farthest variable of the greatest context has a form, however deep the
// raw term.
func TestP8_1TheFarthestVariable(t *testing.T) {
	ctx := rows(900)
	ctx[0] = of(0, fn(), a())
	got, e := norm.Of(small(), ctx, lams(59, bound(958)))
	binds := append(rows(59), fn(), a())
	if want := bind(v(960, bind(v(2, v(0)), a()), v(0)), binds...); e != api.OK || !same(got, want) {
		t.Errorf("%.100s, %d", code(got), e)
	}
	if _, e := norm.Of(small(), ctx, lams(59, bound(959))); e != api.ErrNone {
		t.Error(e)
	}
}

// sized: a world of z, and of a constant of each size from 2 to 900.
func sized() term.World {
	w := term.World{Bases: 1, Consts: types(a())}
	for size := 2; size <= 900; size++ {
		w.Consts = append(w.Consts, row(size))
	}
	return w
}

// costing: a raw term of that cost, above 3, in the sized world, whose form is
// z.
func costing(cost int) raw.Raw {
	if size := cost - 2; size <= 900 {
		return app(lam(row(size), z()), con(size-1))
	}
	return app(lam(a(), costing(cost/2)), costing(cost-1-cost/2))
}

func TestP8_1AsManyUnitsAsOneFormMayHave(t *testing.T) {
	for _, x := range []struct {
		cost, units int
		want        api.Errno
		left        int
	}{
		{4, 4, api.OK, 0},
		{1805, 2000, api.OK, 195},
		{1805, 1804, api.ErrFuel, 0},
		{work - 1, work, api.OK, 1},
		{work, work, api.OK, 0},
		{work, 2 * work, api.OK, work},
		{work, work - 1, api.ErrFuel, 0},
		{work + 1, work, api.ErrLong, 0},
		{work + 1, work + 1, api.ErrLong, 1},
		{work + 1, 2 * work, api.ErrLong, work},
		{work + 1, work - 1, api.ErrFuel, 0},
		{work + 500, work, api.ErrLong, 0},
		{2 * work, 3 * work, api.ErrLong, 2 * work},
		{2 * work, 3, api.ErrFuel, 0},
	} {
		w, r, b := sized(), costing(x.cost), budget.New(x.units)
		got, e := norm.Long(w, nil, r, b)
		if e != x.want || b.Left() != x.left || b.Dry() != (x.want == api.ErrFuel) || (e == api.OK && !same(got, c(0))) || (e != api.OK && !zero(got)) {
			t.Errorf("what costs %d, of %d units: %s, %d, %d are left", x.cost, x.units, code(got), e, b.Left())
		}
		n, e := norm.Cost(w, nil, r)
		_, of := norm.Of(w, nil, r)
		if x.cost <= work && (n != x.cost || e != api.OK || of != api.OK) || x.cost > work && (n != 0 || e != api.ErrLong || of != api.ErrLong) {
			t.Errorf("what costs %d: %d, %d, %d", x.cost, n, e, of)
		}
	}
	// A head's own units may be those too many.
	for _, size := range []int{2, 3, 451, 900} {
		w, r := sized(), app(lam(row(size), costing(work-size/2)), con(size-1))
		b := budget.New(2 * work)
		if _, e := norm.Long(w, nil, r, b); e != api.ErrLong || b.Left() != work || b.Dry() {
			t.Error(size, e, b.Left())
		}
		b = budget.New(work - 1)
		if _, e := norm.Long(w, nil, r, b); e != api.ErrFuel || b.Left() != 0 || !b.Dry() {
			t.Error(size, e, b.Left())
		}
	}
}

func TestP8_1AFormThatIsNotRight(t *testing.T) {
	// \x. s (.. (s x)), so many times, put by s (.. z).
	both := func(n, depth int) raw.Raw { return app(lam(a(), times(n, s(), bound(0))), deep(depth)) }
	// \x. q x .. x last, put by q (s z) .. (s z) (s (s z)): its size is 4999, and
	// that of last.
	w := small()
	w.Consts = append(w.Consts, row(51))
	great := func(last raw.Raw) raw.Raw {
		outer := append(slices.Repeat([]raw.Raw{bound(0)}, 49), last)
		inner := append(slices.Repeat([]raw.Raw{app(s(), z())}, 49), app(s(), app(s(), z())))
		return app(lam(a(), app(con(5), outer...)), app(con(5), inner...))
	}
	for name, x := range map[string]struct {
		r    raw.Raw
		want api.Errno
	}{
		"deep":                 {both(30, 30), api.OK},
		"too deep":             {both(30, 31), api.ErrLong},
		"far too deep":         {both(57, 59), api.ErrLong},
		"too deep, but gone":   {app(lam(a(), z()), both(50, 50)), api.OK},
		"too deep on its way":  {app(lam(fn(), app(bound(0), both(30, 31))), lam(a(), z())), api.OK},
		"great":                {great(z()), api.OK},
		"too great":            {great(app(s(), z())), api.ErrLong},
		"far too great":        {great(bound(0)), api.ErrLong},
		"too great, but gone":  {app(lam(a(), z()), great(bound(0))), api.OK},
		"not too deep":         {app(two(fn()), two(a()), s(), z()), api.OK},
		"too deep by doubling": {app(two(of(0, fn(), a())), two(fn()), two(a()), lam(a(), times(4, s(), bound(0))), z()), api.ErrLong},
	} {
		want, e, cost := form(w, nil, x.r)
		if e != api.OK || (x.want == api.OK) != term.Right(want) {
			t.Error(name, "isn't what it should be", e, term.Depth(want))
		}
		b := budget.New(work)
		got, e := norm.Long(w, nil, x.r, b)
		if e != x.want || b.Used() != cost || b.Dry() || (e == api.OK && !same(got, want)) || (e != api.OK && !zero(got)) {
			t.Errorf("%s: %.80s, %d, %d were spent; want %d, %d", name, code(got), e, b.Used(), x.want, cost)
		}
		if n, e := norm.Cost(w, nil, x.r); e != x.want || (e == api.OK && n != cost) || (e != api.OK && n != 0) {
			t.Errorf("%s costs %d, %d; want %d, %d", name, n, e, cost, x.want)
		}
		// It is told at last.
		b = budget.New(cost - 1)
		if _, e := norm.Long(w, nil, x.r, b); e != api.ErrFuel || !b.Dry() {
			t.Error(name, e)
		}
	}
}
