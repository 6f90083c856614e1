package norm_test

import (
	"math"
	"slices"
	"testing"

	"filigree/api"
	"filigree/budget"
	"filigree/kind"
	"filigree/norm"
	"filigree/term"
)

func TestP8_2Put(t *testing.T) {
	id := bind(v(0), a())
	succ := bind(c(1, v(0)), a())
	swap := bind(c(2, v(0), v(1)), a(), a())
	for name, x := range map[string]struct {
		t     term.Term
		args  []term.Term
		want  term.Term
		units int
	}{
		"none, in a head":                    {c(3), nil, c(3), 1},
		"none, in what binds":                {bind(c(2, v(0), v(7)), a()), nil, bind(c(2, v(0), v(7)), a()), 3},
		"the zero term":                      {term.Term{}, nil, term.Term{}, 1},
		"a variable":                         {id, []term.Term{c(5)}, c(5), 2},
		"a variable that isn't there":        {bind(c(3), a()), []term.Term{c(5, c(6))}, c(3), 1},
		"a greater one":                      {id, []term.Term{c(5, c(6), v(2))}, c(5, c(6), v(2)), 4},
		"in an argument":                     {succ, []term.Term{c(5)}, c(1, c(5)), 3},
		"twice":                              {bind(c(2, v(0), v(0)), a()), []term.Term{c(1, v(4))}, c(2, c(1, v(4)), c(1, v(4))), 7},
		"two":                                {swap, []term.Term{c(5), c(6)}, c(2, c(6), c(5)), 5},
		"the first of two":                   {swap, []term.Term{c(5)}, bind(c(2, v(0), c(5)), a()), 4},
		"the first of two, a loose one":      {swap, []term.Term{v(5)}, bind(c(2, v(0), v(6)), a()), 4},
		"the first of three":                 {bind(c(0, v(0), v(1), v(2), v(3)), a(), b(), fn()), []term.Term{v(0)}, bind(c(0, v(0), v(1), v(2), v(2)), b(), fn()), 6},
		"the first two of three":             {bind(c(0, v(0), v(1), v(2), v(3)), a(), b(), fn()), []term.Term{v(0), v(8)}, bind(c(0, v(0), v(9), v(1), v(1)), fn()), 7},
		"a loose one is less":                {bind(v(2), a(), a()), []term.Term{v(7)}, bind(v(1), a()), 1},
		"a loose one is less by all":         {bind(v(5), a(), a()), []term.Term{c(1), c(2)}, v(3), 1},
		"a loose one further in":             {bind(c(3, bind(v(4), a(), a())), a()), []term.Term{c(0)}, c(3, bind(v(3), a(), a())), 2},
		"under binders":                      {bind(c(3, bind(v(1), b())), a()), []term.Term{v(4)}, c(3, bind(v(5), b())), 3},
		"under binders, its own stays":       {bind(c(3, bind(v(0), b())), a()), []term.Term{v(4)}, c(3, bind(v(0), b())), 2},
		"under many binders":                 {bind(c(3, bind(c(3, bind(v(5), b(), b())), a(), a())), a(), a()), []term.Term{v(0)}, bind(c(3, bind(c(3, bind(v(5), b(), b())), a(), a())), a()), 4},
		"a function":                         {bind(v(0, c(5)), fn()), []term.Term{succ}, c(1, c(5)), 5},
		"a function that drops":              {bind(v(0, c(5)), fn()), []term.Term{bind(c(7), a())}, c(7), 3},
		"a function that doubles":            {bind(v(0, c(5)), fn()), []term.Term{bind(c(2, v(0), v(0)), a())}, c(2, c(5), c(5)), 7},
		"a function of two":                  {bind(v(0, c(5), c(6)), of(0, a(), a())), []term.Term{swap}, c(2, c(6), c(5)), 8},
		"a function, of itself put":          {bind(v(0, v(0, c(5))), fn()), []term.Term{succ}, c(1, c(1, c(5))), 10},
		"a function, of what is put":         {bind(v(1, v(0)), fn(), a()), []term.Term{succ, c(6)}, c(1, c(6)), 6},
		"a function with a loose one":        {bind(c(3, bind(v(1, v(0)), a())), fn()), []term.Term{bind(c(2, v(0), v(3)), a())}, c(3, bind(c(2, v(0), v(3)), a())), 7},
		"a function with binders within":     {bind(v(0, v(1)), fn()), []term.Term{bind(c(3, bind(c(2, v(0), v(1)), b())), a())}, c(3, bind(c(2, v(0), v(1)), b())), 7},
		"a function of a function":           {bind(v(0, bind(c(1, v(0)), a())), of(0, fn())), []term.Term{bind(v(0, v(0, c(4))), fn())}, c(1, c(1, c(4))), 13},
		"a function, what it drops is gone":  {bind(v(0, v(0, c(5))), fn()), []term.Term{bind(c(7), a())}, c(7), 5},
		"a Const of such an index":           {bind(c(0, m(0)), a()), []term.Term{c(5)}, c(0, m(0)), 2},
		"no kind of head":                    {bind(tm(nil, head(3, 0), tm(nil, head(-1, 0))), a()), []term.Term{c(5)}, tm(nil, head(3, 0), tm(nil, head(-1, 0))), 2},
		"an index below 0":                   {bind(c(2, v(-1), v(math.MinInt)), a(), a()), []term.Term{v(-3)}, bind(c(2, v(-1), v(math.MinInt)), a()), 3},
		"an index below 0 is put":            {bind(c(3, bind(v(1), a())), a()), []term.Term{v(-3)}, c(3, bind(v(-3), a())), 3},
		"of many levels":                     {bind(nested(levels/4, v(0)), a()), []term.Term{nested(levels/4, v(3))}, nested(levels/2, v(3)), levels/2 + 2},
		"of many binders":                    {bind(v(levels-1), rows(levels)...), []term.Term{v(4)}, bind(v(levels+3), rows(levels-1)...), 2},
		"many":                               {bind(c(0, v(0), v(levels-1), v(levels)), rows(levels)...), slices.Repeat([]term.Term{v(4)}, levels), c(0, v(4), v(4), v(0)), 6},
		"what isn't right":                   {bind(wide(8000), a()), []term.Term{c(1)}, wide(8000), 8000},
		"types that are nowhere":             {bind(c(3, bind(v(1), of(-4, of(99)))), of(-1), of(-2)), []term.Term{c(0)}, bind(c(3, bind(v(1), of(-4, of(99)))), of(-2)), 2},
		"other types than the places'":       {bind(v(0, bind(v(0), a())), b()), []term.Term{bind(c(0, bind(v(0), fn())), fn())}, c(0, bind(v(0), fn())), 4},
		"up to a million":                    {bind(c(0, v(1000001), v(1000000)), a()), []term.Term{c(0)}, c(0, v(1000000), v(999999)), 3},
		"up to a million, grown":             {bind(c(0, bind(v(1), a())), a()), []term.Term{v(999999)}, c(0, bind(v(1000000), a())), 3},
		"above a million on its way":         {bind(v(0, bind(v(1000003), a(), a(), a())), of(0, of(0, a(), a(), a()))), []term.Term{bind(v(0, c(1), c(2), c(3)), of(0, a(), a(), a()))}, v(999999), 7},
		"far above a million, where dropped": {bind(v(0, v(math.MaxInt)), fn()), []term.Term{bind(c(7), a())}, c(7), 3},
	} {
		units := budget.New(x.units + 3)
		got, e := norm.Put(x.t, units, x.args...)
		if e != api.OK || !same(got, x.want) || units.Left() != 3 || units.Dry() {
			t.Errorf("%s: %.100s, %d, %d are left; want %.100s, 3", name, code(got), e, units.Left(), code(x.want))
		}
		if x.units > 100 {
			continue
		}
		for n := range x.units {
			units := budget.New(n)
			if got, e := norm.Put(x.t, units, x.args...); e != api.ErrFuel || !zero(got) || units.Left() != 0 || !units.Dry() {
				t.Errorf("%s, of %d units: %s, %d, %d are left", name, n, code(got), e, units.Left())
			}
		}
		if got, e := norm.Put(x.t, budget.New(x.units), x.args...); e != api.OK || !same(got, x.want) {
			t.Errorf("%s, of %d units: %s, %d", name, x.units, code(got), e)
		}
	}
}

func TestP8_2PutsErrors(t *testing.T) {
	d := bind(c(2, v(0), v(0)), a())
	for name, x := range map[string]struct {
		t     term.Term
		args  []term.Term
		units int
		want  api.Errno
		left  int
	}{
		"fewer binders":                        {bind(v(0), a()), []term.Term{c(0), c(0)}, 9, api.ErrArg, 9},
		"no binders":                           {c(0), []term.Term{c(0)}, 9, api.ErrArg, 9},
		"fewer binders, without units":         {c(0), []term.Term{c(0)}, 0, api.ErrArg, 0},
		"no units":                             {c(0), nil, 0, api.ErrFuel, 0},
		"a place without arguments":            {bind(v(0), fn()), []term.Term{d}, 9, api.ErrArg, 8},
		"a place with an argument":             {bind(v(0, c(0)), a()), []term.Term{c(0)}, 9, api.ErrArg, 7},
		"a place with more of them":            {bind(v(0, c(0), c(0)), fn()), []term.Term{d}, 9, api.ErrArg, 6},
		"a place with fewer":                   {bind(v(0, c(0)), fn()), []term.Term{bind(c(0), a(), a())}, 9, api.ErrArg, 7},
		"not where it isn't put":               {bind(c(0), fn(), a()), []term.Term{d, d}, 9, api.OK, 8},
		"at a second place":                    {bind(c(2, v(0, c(0)), v(0)), fn()), []term.Term{d}, 20, api.ErrArg, 11},
		"ahead of its units":                   {bind(v(0), fn()), []term.Term{d}, 1, api.ErrArg, 0},
		"but behind the place's":               {bind(v(0), fn()), []term.Term{d}, 0, api.ErrFuel, 0},
		"behind the place's arguments'":        {bind(v(0, c(0)), a()), []term.Term{c(0)}, 1, api.ErrFuel, 0},
		"behind those of what is ahead":        {bind(c(2, c(0), v(0)), fn()), []term.Term{d}, 2, api.ErrFuel, 0},
		"ahead of those of what is behind":     {bind(c(2, v(0), c(0)), fn()), []term.Term{d}, 2, api.ErrArg, 0},
		"the inner one first":                  {bind(v(0, v(0)), fn()), []term.Term{d}, 9, api.ErrArg, 7},
		"what is put is put again":             {bind(v(0, c(0)), of(0, fn())), []term.Term{bind(v(0, c(1)), fn())}, 9, api.ErrArg, 5},
		"it is put in what is dropped":         {bind(v(0, v(1)), fn(), fn()), []term.Term{d, bind(c(0), a())}, 9, api.ErrArg, 7},
		"too few for what is put":              {bind(v(0), a()), []term.Term{c(0, c(1), c(2))}, 3, api.ErrFuel, 0},
		"just as many as can be":               {wide(work), nil, work, api.OK, 0},
		"just as many as can be, put":          {bind(wide(work), a()), []term.Term{c(0)}, work + 1, api.OK, 1},
		"one more":                             {wide(work + 1), nil, work + 5, api.ErrLong, 5},
		"one more, and no units for it":        {wide(work + 1), nil, work, api.ErrLong, 0},
		"one more, and units for fewer":        {wide(work + 1), nil, work - 1, api.ErrFuel, 0},
		"one more, of what is put":             {bind(c(1, v(0)), a()), []term.Term{wide(work - 1)}, 2 * work, api.ErrLong, work},
		"just as many, of what is put":         {bind(c(1, v(0)), a()), []term.Term{wide(work - 2)}, 2 * work, api.OK, work},
		"what is put wrong behind too many":    {bind(c(2, wide(work-1), v(0)), fn()), []term.Term{d}, 2 * work, api.ErrLong, work},
		"what is put wrong at the last one":    {bind(c(2, wide(work-2), v(0)), fn()), []term.Term{d}, 2 * work, api.ErrArg, work},
		"doubled and doubled":                  {bind(chain(30, head(0, 0), c(0)), fn()), []term.Term{d}, 3 * work, api.ErrLong, 2 * work},
		"doubled and doubled, of few units":    {bind(chain(30, head(0, 0), c(0)), fn()), []term.Term{d}, 1000, api.ErrFuel, 0},
		"of a size beyond all numbers":         {doubled(80), nil, 2 * work, api.ErrLong, work},
		"a size beyond all numbers is put":     {bind(v(0), a()), []term.Term{doubled(80)}, 50, api.ErrFuel, 0},
		"a size beyond all numbers is dropped": {bind(v(0, c(0), v(1)), a(), of(0, a(), a())), []term.Term{doubled(80), bind(c(7), a(), a())}, 50, api.ErrFuel, 0},
		"such a one isn't put at all":          {bind(c(0), a()), []term.Term{doubled(80)}, 50, api.OK, 49},
		"of many levels":                       {nested(levels, c(0)), nil, work, api.OK, work - levels - 1},
		"of many levels, twice":                {bind(nested(levels-1, v(0)), a()), []term.Term{nested(levels, c(0))}, 2 * work, api.ErrLong, work},
	} {
		units := budget.New(x.units)
		got, e := norm.Put(x.t, units, x.args...)
		if e != x.want || (e != api.OK && !zero(got)) || units.Left() != x.left || units.Dry() != (x.want == api.ErrFuel) {
			t.Errorf("%s: %.60s, %d, %d are left, dry %t; want %d, %d", name, code(got), e, units.Left(), units.Dry(), x.want, x.left)
		}
	}
}

func TestP8_2PutWithoutABudget(t *testing.T) {
	for _, x := range []term.Term{{}, c(0), bind(v(0), a())} {
		if got, e := norm.Put(x, nil); e != api.ErrArg || !zero(got) {
			t.Error(code(got), e)
		}
		if got, e := norm.Put(x, nil, c(0)); e != api.ErrArg || !zero(got) {
			t.Error(code(got), e)
		}
	}
	// One that ran dry has units that can't be spent.
	dry := budget.New(0)
	dry.Spend(1)
	dry.Back(budget.New(50))
	if got, e := norm.Put(c(0), dry); e != api.ErrFuel || !zero(got) || dry.Left() != 0 {
		t.Error(code(got), e, dry.Left())
	}
	// Units that were spent ahead don't count.
	b := budget.New(2 * work)
	for range 3 {
		if _, e := norm.Put(wide(work/2), b); e != api.OK {
			t.Error(e)
		}
	}
	if b.Left() != work/2 {
		t.Error(b.Left())
	}
}

// Of an index that stands above a million only what it becomes is free.
func TestP8_2PutOfGreatIndexes(t *testing.T) {
	for _, i := range []int{1000002, math.MaxInt32, math.MaxInt - 1, math.MaxInt} {
		for _, x := range []term.Term{
			c(0, v(i), bind(v(i), a(), a()), c(1, bind(v(i, v(i)), a()))),
			bind(c(0, v(i), c(3, bind(v(i), a()))), a()),
			bind(c(0, v(i), c(3, bind(v(i), a()))), a(), fn()),
		} {
			for _, arg := range []term.Term{v(i), c(1, bind(v(i), a()))} {
				got, e := norm.Put(bind(c(3, x, bind(v(1), fn())), a()), budget.New(100), arg)
				if want := flat(c(3, x, bind(arg, fn()))); e != api.OK || !same(flat(got), want) {
					t.Errorf("%s in %s: %s, %d", code(arg), code(x), code(got), e)
				}
			}
		}
	}
}

// flat: t with the index 0 in the stead of each that may be anything.
func flat(t term.Term) term.Term {
	if t.Head.Kind == term.Bound && (t.Head.Index < 0 || t.Head.Index > 1000000) {
		t.Head.Index = 0
	}
	t.Args = slices.Clone(t.Args)
	for i, x := range t.Args {
		t.Args[i] = flat(x)
	}
	return t
}

// terms: all terms of at most that size, of at most two binders, of the
// constant 0 and the indexes below most.
func terms(size, most int) []term.Term {
	var all []term.Term
	for _, body := range bodies(size, most) {
		for n := range 3 {
			all = append(all, bind(body, types(a(), fn())[:n]...))
		}
	}
	return all
}

func bodies(size, most int) []term.Term {
	if size == 0 {
		return nil
	}
	all := []term.Term{c(0)}
	for i := range most {
		all = append(all, v(i))
	}
	heads := slices.Clone(all)
	for n := 1; n < size; n++ {
		for _, x := range terms(n, most) {
			if term.Size(x) != n {
				continue
			}
			for _, h := range heads {
				all = append(all, tm(nil, h.Head, x))
			}
			for _, y := range terms(size-1-n, most) {
				for _, h := range heads {
					all = append(all, tm(nil, h.Head, x, y))
				}
			}
		}
	}
	return all
}

// hold tells whether Put tells what the chapter words, with so many units.
func hold(t *testing.T, x term.Term, units int, args ...term.Term) api.Errno {
	want, e, left := put(x, units, args...)
	b := budget.New(units)
	got, is := norm.Put(x, b, args...)
	if is != e || !same(got, want) || b.Left() != left || b.Dry() != (e == api.ErrFuel) {
		l := ""
		for _, y := range args {
			l += " " + code(y)
		}
		t.Fatalf("%s by%s with %d: %s, %d, %d are left; want %s, %d, %d", code(x), l, units, code(got), is, b.Left(), code(want), e, left)
	}
	return e
}

func TestP8_2PutOfSmallOnes(t *testing.T) {
	met := map[api.Errno]int{}
	args := terms(2, 3)
	for k, x := range terms(3, 4) {
		// Of all pairs one in five, a different one each time.
		for i := k % 5; i < len(args); i += 5 {
			y := args[i]
			met[hold(t, x, 60, y)]++
			met[hold(t, x, (i+k)%6, y)]++
			if z := args[i*7%len(args)]; len(x.Binds) == 2 {
				met[hold(t, x, 60, y, z)]++
				met[hold(t, x, 2+(i+k)%6, z, y)]++
			}
		}
	}
	for _, e := range []api.Errno{api.OK, api.ErrArg, api.ErrFuel} {
		if met[e] < 1000 {
			t.Errorf("error %d was met %d times", e, met[e])
		}
	}
}

// What is put into is put where places have the arguments: of arguments of one
// shape alone.
func TestP8_2PutOfFunctions(t *testing.T) {
	var functions []term.Term
	for _, x := range terms(3, 3) {
		if len(x.Binds) == 1 {
			functions = append(functions, x)
		}
	}
	fits := 0
	for i, f := range functions {
		for k := range 20 {
			g := functions[(i*31+k*17)%len(functions)]
			for _, x := range []term.Term{
				bind(v(0, bind(v(1, bind(v(0, c(1)), b())), a())), fn()),
				bind(v(0, bind(v(0, bind(v(2, v(3)), b())), a())), fn()),
				bind(v(1, bind(v(1, bind(v(3, v(0)), b())), a())), fn(), fn()),
				bind(c(2, bind(v(2, bind(v(0), a())), b()), v(1, bind(v(1), a()))), fn(), b()),
			} {
				if hold(t, x, 2000, f) == api.OK {
					fits++
				}
				if len(x.Binds) == 2 && hold(t, x, 2000, f, g) == api.OK {
					fits++
				}
			}
		}
	}
	if fits < 1000 {
		t.Error("too few fit:", fits)
	}
}

func TestP8_2Typed(t *testing.T) {
	w := small()
	loose := types(a(), fn())
	double := bind(c(2, v(0), v(0)), a())
	wrongCtx := append(rows(3), of(2))
	for name, x := range map[string]struct {
		w    term.World
		ctx  []kind.Type
		t    term.Term
		args []term.Term
		want bool
	}{
		"none":                             {w, nil, c(0), nil, true},
		"none, in what binds":              {w, nil, double, nil, true},
		"one":                              {w, nil, double, []term.Term{c(0)}, true},
		"one too many":                     {w, nil, c(0), []term.Term{c(0)}, false},
		"two too many":                     {w, nil, double, []term.Term{c(0), c(0)}, false},
		"the first of two":                 {w, nil, bind(c(0), a(), b()), []term.Term{c(0)}, true},
		"both":                             {w, nil, bind(c(0), a(), fn()), []term.Term{c(0), double}, true},
		"the second isn't":                 {w, nil, bind(c(0), a(), fn()), []term.Term{c(0), c(0)}, false},
		"the first isn't":                  {w, nil, bind(c(0), a(), fn()), []term.Term{double, double}, false},
		"of another base":                  {w, types(b()), bind(c(0), a()), []term.Term{v(0)}, false},
		"of that base":                     {w, types(b()), bind(c(0), b()), []term.Term{v(0)}, true},
		"of another binder":                {w, nil, bind(c(0), of(0, b())), []term.Term{double}, false},
		"loose ones":                       {w, loose, bind(v(1, v(0)), a()), []term.Term{v(1)}, true},
		"loose ones that aren't there":     {w, loose, bind(v(1, v(0)), a()), []term.Term{v(2)}, false},
		"the term's isn't there":           {w, nil, bind(v(1), a()), []term.Term{c(0)}, false},
		"no such constant":                 {w, nil, bind(c(5), a()), []term.Term{c(0)}, false},
		"no kind of head":                  {w, nil, bind(tm(nil, head(3, 0)), a()), []term.Term{c(0)}, false},
		"an argument has no such head":     {w, nil, bind(c(0), a()), []term.Term{c(5)}, false},
		"the term isn't long":              {w, nil, bind(c(1), a()), []term.Term{c(0)}, false},
		"the term's argument isn't typed":  {w, nil, bind(c(1, c(1)), a()), []term.Term{c(0)}, false},
		"an argument isn't long":           {w, nil, bind(c(0), fn()), []term.Term{c(1)}, false},
		"an argument's isn't typed":        {w, nil, bind(c(0), a()), []term.Term{c(1, double)}, false},
		"metavariables":                    {w, nil, bind(m(1, v(0)), a()), []term.Term{m(0)}, true},
		"no such metavariable":             {w, nil, bind(m(2), a()), []term.Term{m(0)}, false},
		"binders of no base":               {w, nil, bind(c(0), of(-1), a()), nil, true},
		"binders of no base, and such":     {w, types(), bind(c(0), of(7)), []term.Term{c(0)}, false},
		"the term is deep":                 {w, nil, nested(59, c(0)), nil, true},
		"the term is too deep":             {w, nil, nested(60, c(0)), nil, false},
		"an argument is deep":              {w, nil, double, []term.Term{nested(59, c(0))}, true},
		"an argument is too deep":          {w, nil, double, []term.Term{nested(60, c(0))}, false},
		"the term is great":                {w, nil, doubled(12), nil, true},
		"the term is too great":            {w, nil, doubled(13), nil, false},
		"the term is far too great":        {w, nil, doubled(60), nil, false},
		"an argument is great":             {w, nil, double, []term.Term{doubled(12)}, true},
		"an argument is too great":         {w, nil, double, []term.Term{doubled(13)}, false},
		"of a size beyond all numbers":     {w, nil, double, []term.Term{doubled(80)}, false},
		"what comes isn't right":           {w, nil, bind(nested(40, v(0)), a()), []term.Term{nested(40, c(0))}, true},
		"a context of 900":                 {w, rows(900), bind(v(900), a()), []term.Term{v(899)}, true},
		"a context of 901":                 {w, rows(901), bind(v(900), a()), []term.Term{v(899)}, false},
		"a context that isn't right":       {w, wrongCtx, double, []term.Term{c(0)}, false},
		"a context's type too great":       {w, types(row(1001)), double, []term.Term{c(0)}, false},
		"a context's type great":           {w, types(row(1000)), double, []term.Term{c(0)}, true},
		"no world":                         {term.World{}, nil, c(0), nil, false},
		"an empty world":                   {term.World{Bases: 1}, types(a()), v(0), nil, true},
		"an empty world without bases":     {term.World{}, types(a()), v(0), nil, false},
		"a world that isn't right":         {term.World{Bases: 1, Consts: types(a(), b())}, nil, c(0), nil, false},
		"a world whose metas aren't right": {term.World{Bases: 1, Consts: types(a()), Metas: types(of(-1))}, nil, c(0), nil, false},
		"a world of 1000":                  {term.World{Bases: 1, Consts: rows(400), Metas: rows(600)}, nil, c(399), nil, true},
		"a world of 1001":                  {term.World{Bases: 1, Consts: rows(401), Metas: rows(600)}, nil, c(399), nil, false},
	} {
		if got := norm.Typed(x.w, x.ctx, x.t, x.args...); got != x.want {
			t.Errorf("%s: %t", name, got)
		}
	}
}
