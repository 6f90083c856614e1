package subst_test

import (
	"math"
	"testing"

	"filigree/api"
	"filigree/budget"
	"filigree/kind"
	"filigree/subst"
	"filigree/term"
)

func TestExample(t *testing.T) {
	w := small()
	s, e := subst.Of(subst.Pair{Meta: 1, Term: bind(c(1, v(0)), a())})
	if e != api.OK || subst.Check(w, nil, s) != api.OK {
		t.Fatal(s, e)
	}
	if got, e := subst.Apply(s, m(1, m(1, c(0))), budget.New(50)); e != api.OK || !term.Equal(got, c(1, c(1, c(0)))) {
		t.Error(got, e)
	}
}

func TestP9_3Apply(t *testing.T) {
	succ := bind(c(1, v(0)), a())
	twice := bind(c(2, v(0), v(0)), a())
	swap := bind(c(2, v(0), v(1)), a(), a())
	drop := bind(c(7), a())
	for name, x := range map[string]struct {
		s     subst.Subst
		t     term.Term
		want  term.Term
		units int
	}{
		"the empty one":                       {nil, bind(c(1, m(0, v(0)), v(8)), a()), bind(c(1, m(0, v(0)), v(8)), a()), 4},
		"the zero term":                       {list(c(1)), term.Term{}, term.Term{}, 1},
		"no metavariables":                    {list(c(9)), bind(c(0, v(0), v(7), bind(c(0), b())), a()), bind(c(0, v(0), v(7), bind(c(0), b())), a()), 4},
		"no kind of head":                     {list(c(9)), tm(3, 0, many(1, tm(-1, 0, nil))), tm(3, 0, many(1, tm(-1, 0, nil))), 2},
		"one":                                 {list(c(9)), m(0), c(9), 2},
		"another one":                         {one(1, c(9)), m(0, m(2)), m(0, m(2)), 2},
		"the first of three":                  {subst.Subst{{Meta: 2, Term: c(7)}, {Meta: 4, Term: c(8)}, {Meta: 6, Term: c(9)}}, m(2), c(7), 2},
		"the last of three":                   {subst.Subst{{Meta: 2, Term: c(7)}, {Meta: 4, Term: c(8)}, {Meta: 6, Term: c(9)}}, m(6), c(9), 2},
		"between them":                        {subst.Subst{{Meta: 2, Term: c(7)}, {Meta: 4, Term: c(8)}, {Meta: 6, Term: c(9)}}, m(3, m(5), m(1), m(7), m(4)), m(3, m(5), m(1), m(7), c(8)), 6},
		"of a number below 0":                 {one(-1, c(9)), m(-1), c(9), 2},
		"of the least and the greatest":       {subst.Subst{{Meta: math.MinInt, Term: c(8)}, {Meta: math.MaxInt, Term: c(9)}}, c(0, m(math.MaxInt), m(math.MinInt)), c(0, c(9), c(8)), 5},
		"a greater one":                       {list(c(5, c(6), v(2))), m(0), c(5, c(6), v(2)), 4},
		"in an argument":                      {list(c(9)), c(1, m(0)), c(1, c(9)), 3},
		"more than once":                      {list(c(1, v(4))), c(2, m(0), m(0)), c(2, c(1, v(4)), c(1, v(4))), 7},
		"two, at once":                        {list(m(1), m(0)), c(2, m(0), m(1)), c(2, m(1), m(0)), 5},
		"its own metavariables stay":          {list(c(1, m(0))), m(0), c(1, m(0)), 3},
		"metavariables of what isn't there":   {list(m(5)), c(1, m(0)), c(1, m(5)), 3},
		"a function":                          {list(succ), m(0, c(9)), c(1, c(9)), 5},
		"a function, of its own":              {list(succ), m(0, m(0, c(0))), c(1, c(1, c(0))), 10},
		"a function that drops":               {list(drop), m(0, c(9)), c(7), 3},
		"a function that doubles":             {list(twice), m(0, v(3)), c(2, v(3), v(3)), 7},
		"a function of two":                   {list(swap), m(0, c(5), c(6)), c(2, c(6), c(5)), 8},
		"arguments first":                     {list(succ, c(9)), m(0, m(1)), c(1, c(9)), 6},
		"arguments, and what is within":       {list(succ, c(9)), m(0, c(2, m(1), v(3))), c(1, c(2, c(9), v(3))), 10},
		"arguments of what stays":             {list(succ), m(4, m(0, c(5))), m(4, c(1, c(5))), 6},
		"a function of a function":            {list(bind(v(0, v(0, c(4))), fn())), m(0, bind(c(1, v(0)), a())), c(1, c(1, c(4))), 13},
		"what it drops is gone":               {list(drop), m(0, m(0, m(5, v(8)))), c(7), 6},
		"a function's metavariables":          {list(bind(m(1, v(0)), a()), drop), m(0, m(2)), m(1, m(2)), 5},
		"the term's binders stay":             {list(c(9)), bind(m(0), a(), fn()), bind(c(9), a(), fn()), 2},
		"within binders":                      {list(v(2)), bind(m(0), a()), bind(v(3), a()), 2},
		"within binders of the whole":         {list(v(4)), bind(c(3, bind(m(0), b())), a(), fn()), bind(c(3, bind(v(7), b())), a(), fn()), 3},
		"not within those beside it":          {list(v(4)), c(2, bind(c(0), a()), m(0)), c(2, bind(c(0), a()), v(4)), 4},
		"at several places":                   {list(v(0)), bind(c(0, m(0), bind(m(0), b(), b()), m(0)), a()), bind(c(0, v(1), bind(v(3), b(), b()), v(1)), a()), 7},
		"within binders, its own binders":     {list(bind(c(3, bind(c(0, v(0), v(1), v(2), v(3)), b())), a())), bind(m(0, c(5)), b()), bind(c(3, bind(c(0, v(0), c(5), v(2), v(3)), b())), b()), 9},
		"within many binders":                 {list(v(3)), bind(m(0), rows(levels)...), bind(v(levels+3), rows(levels)...), 2},
		"arguments within binders":            {list(bind(c(3, bind(v(1), b())), a())), bind(m(0, v(0)), a()), bind(c(3, bind(v(1), b())), a()), 5},
		"arguments' loose ones":               {list(bind(c(3, bind(v(1), b())), a())), bind(m(0, v(6)), a()), bind(c(3, bind(v(7), b())), a()), 5},
		"arguments that bind":                 {list(bind(v(0, v(1)), fn())), bind(m(0, bind(c(2, v(0), v(1)), a())), b()), bind(c(2, v(1), v(0)), b()), 10},
		"an argument within what is put":      {list(bind(c(0, bind(v(1, v(0)), b()), v(1), v(9)), a(), fn())), bind(m(0, v(1), bind(v(0), b())), b(), b()), bind(c(0, bind(v(0), b()), v(1), v(9)), b(), b()), 11},
		"an index below 0":                    {list(v(-1)), bind(m(0), a()), bind(v(-1), a()), 2},
		"an index far below 0":                {list(c(0, v(math.MinInt))), bind(m(0), a()), bind(c(0, v(math.MinInt)), a()), 3},
		"above 1000":                          {list(v(1000)), bind(m(0), a()), bind(v(1001), a()), 2},
		"up to a million":                     {list(v(999998)), bind(m(0), a(), a()), bind(v(1000000), a(), a()), 2},
		"above a million on its way":          {list(bind(v(1000003), rows(3)...)), m(0, c(4), c(5), c(6)), v(1000000), 5},
		"above a million, where it's dropped": {list(drop), m(0, bind(v(math.MaxInt), a())), c(7), 3},
		"types that are nowhere":              {list(c(3, bind(v(0), kind.Of(-4)))), bind(m(0), kind.Of(-1, kind.Of(99))), bind(c(3, bind(v(0), kind.Of(-4))), kind.Of(-1, kind.Of(99))), 3},
		"other types than the place's":        {list(bind(v(0, c(4)), b())), m(0, bind(c(1, v(0)), fn())), c(1, c(4)), 8},
		"a term that isn't typed stays":       {list(c(9)), v(0, bind(c(0), fn())), v(0, bind(c(0), fn())), 2},
		"too great a one isn't looked at":     {subst.Subst{{Meta: 0, Term: c(9)}, {Meta: 1, Term: doubled(80)}}, m(0), c(9), 2},
		"as deep as can be":                   {list(nested(29, c(0))), nested(30, m(0)), nested(59, c(0)), 61},
	} {
		units := budget.New(x.units + 3)
		got, e := subst.Apply(x.s, x.t, units)
		if e != api.OK || !term.Equal(got, x.want) || units.Left() != 3 || units.Dry() {
			t.Errorf("%s: %s, %d, %d are left; want %s, 3", name, brief(got), e, units.Left(), brief(x.want))
		}
		for n := range x.units {
			units := budget.New(n)
			if got, e := subst.Apply(x.s, x.t, units); e != api.ErrFuel || !zero(got) || units.Left() != 0 || !units.Dry() {
				t.Errorf("%s, of %d units: %v, %d, %d are left", name, n, got, e, units.Left())
			}
		}
		if got, e := subst.Apply(x.s, x.t, budget.New(x.units)); e != api.OK || !term.Equal(got, x.want) {
			t.Errorf("%s, of %d units: %v, %d", name, x.units, got, e)
		}
	}
}

func TestP9_3AppliesErrors(t *testing.T) {
	d := bind(c(2, v(0), v(0)), a())
	drop := bind(c(7), a())
	for name, x := range map[string]struct {
		s     subst.Subst
		t     term.Term
		units int
		want  api.Errno
		left  int
	}{
		"falling":                            {numbered(1, 0), c(0), 9, api.ErrArg, 9},
		"twice":                              {numbered(0, 0), c(0), 9, api.ErrArg, 9},
		"falling, without units":             {numbered(1, 0), c(0), 0, api.ErrArg, 0},
		"no units":                           {nil, c(0), 0, api.ErrFuel, 0},
		"a place without arguments":          {list(d), m(0), 9, api.ErrArg, 8},
		"a place with an argument":           {list(c(0)), m(0, c(0)), 9, api.ErrArg, 7},
		"a place with more of them":          {list(d), m(0, c(0), c(0)), 9, api.ErrArg, 6},
		"a place with fewer":                 {list(bind(d, a(), a())), m(0, c(0)), 9, api.ErrArg, 7},
		"a place that binds":                 {list(bind(c(0), a())), bind(m(0), a()), 9, api.ErrArg, 8},
		"not where it isn't put":             {list(d), c(0), 9, api.OK, 8},
		"at a second place":                  {list(d), c(2, m(0, c(0)), m(0)), 20, api.ErrArg, 11},
		"ahead of its units":                 {list(d), m(0), 1, api.ErrArg, 0},
		"but behind the place's":             {list(d), m(0), 0, api.ErrFuel, 0},
		"behind the place's arguments'":      {list(d), m(0, c(0), c(0)), 2, api.ErrFuel, 0},
		"behind what is ahead":               {list(d), c(2, c(0), m(0)), 2, api.ErrFuel, 0},
		"ahead of what is behind":            {list(d), c(2, m(0), c(0)), 2, api.ErrArg, 0},
		"an argument's first":                {list(d, c(0)), m(0, m(1, m(0, c(0))), c(0)), 50, api.ErrArg, 41},
		"an argument's, of what is dropped":  {list(d, drop), m(1, m(0)), 9, api.ErrArg, 7},
		"what is put in what is put":         {list(bind(v(0, c(0)), fn())), m(0, c(5)), 9, api.ErrArg, 5},
		"an argument that binds":             {list(bind(v(0), b())), m(0, bind(c(0), fn())), 9, api.ErrArg, 6},
		"such a thing within":                {list(bind(v(0, c(0)), fn())), nested(3, m(0, c(5))), 9, api.ErrArg, 2},
		"such a thing where it is dropped":   {list(bind(v(0, c(0)), fn()), drop), m(1, m(0, c(5))), 9, api.ErrArg, 4},
		"too few for what is put":            {list(c(0, c(1), c(2))), m(0), 3, api.ErrFuel, 0},
		"too few for an argument that's put": {list(d), m(0, c(0, c(1))), 8, api.ErrFuel, 0},
		"just as many as a Put counts":       {list(wide(work), drop), m(1, m(0)), work + 10, api.OK, 7},
		"one more":                           {list(wide(work+1), drop), m(1, m(0)), work + 10, api.ErrLong, 8},
		"one more, and no units for it":      {list(wide(work + 1)), m(0), work + 1, api.ErrLong, 0},
		"one more, and units for fewer":      {list(wide(work + 1)), m(0), work, api.ErrFuel, 0},
		"one more, by an argument":           {list(bind(c(1, v(0)), a())), m(0, wide(work-1)), 3 * work, api.ErrLong, work},
		"just as many, by an argument":       {list(bind(c(1, v(0)), a()), drop), m(1, m(0, wide(work-2))), 3 * work, api.OK, work - 1},
		"each Put counts for itself":         {list(wide(work-9), bind(c(7), a(), a())), m(1, m(0), m(0)), 2 * work, api.OK, 14},
		"more than a Put counts, no Put":     {list(drop), m(0, wide(2*work)), 2*work + 9, api.OK, 7},
		"doubled and doubled":                {list(d), chained(30, 0, c(0)), 3 * work, api.ErrLong, 68886},
		"doubled and doubled, of few units":  {list(d), chained(30, 0, c(0)), 1000, api.ErrFuel, 0},
		"as great as can be":                 {list(wide(nodes)), m(0), 6000, api.OK, 999},
		"too great":                          {list(wide(nodes + 1)), m(0), 6000, api.ErrLong, 998},
		"as great as can be, by both":        {list(wide(nodes - 1)), c(1, m(0)), 6000, api.OK, 999},
		"too great, by both":                 {list(wide(nodes)), c(1, m(0)), 6000, api.ErrLong, 998},
		"too great without it":               {list(c(0)), wide(nodes + 1), 6000, api.ErrLong, 999},
		"as great without it":                {list(c(0)), wide(nodes), 6000, api.OK, 1000},
		"too great, and no units":            {list(c(0)), wide(nodes + 1), nodes, api.ErrFuel, 0},
		"too great, and something wrong":     {list(d), c(2, wide(nodes+1), m(0)), 6000, api.ErrArg, 997},
		"too great, where it's dropped":      {list(drop), m(0, wide(nodes+1)), 6000, api.OK, 997},
		"too deep":                           {list(nested(30, c(0))), nested(30, m(0)), 99, api.ErrLong, 37},
		"too deep without it":                {list(c(0)), nested(nest, c(0)), 99, api.ErrLong, 38},
		"too deep, where it's dropped":       {list(drop), m(0, nested(nest, c(0))), 99, api.OK, 36},
		"of many levels":                     {list(c(0)), nested(levels, m(0)), work, api.ErrLong, work - levels - 2},
		"of many levels, where it's dropped": {list(drop), m(0, nested(levels, c(0))), work, api.OK, work - levels - 3},
		"many levels put":                    {list(nested(levels, c(0)), drop), m(1, m(0)), work, api.OK, work - levels - 4},
		"beyond all numbers, of few units":   {list(doubled(80)), m(0), 50, api.ErrFuel, 0},
		"beyond all numbers, put":            {list(doubled(80)), m(0), 3 * work, api.ErrLong, 2*work - 1},
		"beyond all numbers, within binders": {list(doubled(80)), bind(m(0), a()), 3 * work, api.ErrLong, 2*work - 1},
		"beyond all numbers, gone through":   {list(c(0)), doubled(80), 50, api.ErrFuel, 0},
		"without an end":                     {list(c(0)), endless(), work, api.ErrFuel, 0},
		"without an end, put":                {list(endless()), bind(m(0), a()), 3 * work, api.ErrLong, 2*work - 1},
		"without an end, not put":            {list(endless()), c(0), 3, api.OK, 2},
	} {
		units := budget.New(x.units)
		got, e := subst.Apply(x.s, x.t, units)
		if e != x.want || (e != api.OK && !zero(got)) || units.Left() != x.left || units.Dry() != (x.want == api.ErrFuel) {
			t.Errorf("%s: %d, %d are left, dry %t; want %d, %d", name, e, units.Left(), units.Dry(), x.want, x.left)
		}
	}
}

// chained: t within so many of that metavariable.
func chained(n, meta int, t term.Term) term.Term {
	for range n {
		t = m(meta, t)
	}
	return t
}

func TestP9_3WithoutABudget(t *testing.T) {
	for _, s := range []subst.Subst{nil, list(c(0)), numbered(1, 0)} {
		if got, e := subst.Apply(s, m(0), nil); e != api.ErrArg || !zero(got) {
			t.Error(s, got, e)
		}
		if got, e := subst.Compose(s, s, nil); e != api.ErrArg || len(got) != 0 {
			t.Error(s, got, e)
		}
	}
	// One that ran dry has units that can't be spent.
	dry := budget.New(0)
	dry.Spend(1)
	dry.Back(budget.New(50))
	if got, e := subst.Apply(nil, c(0), dry); e != api.ErrFuel || !zero(got) || dry.Left() != 0 {
		t.Error(got, e, dry.Left())
	}
}

// What is put far within a term, as far as a Put looks, is grown, and what is
// wrong there is found; behind that nothing is looked at.
func TestP9_3FarWithin(t *testing.T) {
	second := bind(v(0), a(), a())
	for _, n := range []int{3, 4998, 20000, 49000, work - 20} {
		s := list(bind(v(0, wide(n), v(8)), kind.Of(0, a(), a())))
		b := budget.New(work)
		got, e := subst.Apply(s, bind(m(0, second), a(), fn(), a()), b)
		if want := bind(v(10), a(), fn(), a()); e != api.OK || !term.Equal(got, want) || b.Used() != n+6 {
			t.Errorf("%d: %v, %d, %d units", n, got, e, b.Used())
		}
	}
	for n, want := range map[int]api.Errno{work - 3: api.ErrArg, work - 2: api.ErrLong, work - 1: api.ErrLong, 3 * work: api.ErrLong} {
		s := list(bind(c(2, wide(n), v(0, c(0))), a()))
		b := budget.New(2 * work)
		if got, e := subst.Apply(s, bind(m(0, c(1)), a()), b); e != want || !zero(got) || b.Used() != 2+min(work, n+3) {
			t.Errorf("%d: %d, %d units; want %d", n, e, b.Used(), want)
		}
		s = list(bind(c(2, v(0, c(0)), wide(n)), a()))
		b = budget.New(2 * work)
		if got, e := subst.Apply(s, bind(m(0, c(1)), a()), b); e != api.ErrArg || !zero(got) || b.Used() != 5 {
			t.Errorf("%d: %d, %d units", n, e, b.Used())
		}
	}
}

// Of an index that stands above a million only what it becomes is free.
func TestP9_3OfGreatIndexes(t *testing.T) {
	for _, i := range []int{1000001, math.MaxInt32, math.MaxInt - 1, math.MaxInt} {
		s := list(c(0, v(i), bind(v(i, v(4)), a()), v(3)))
		got, e := subst.Apply(s, bind(c(2, m(0), v(i)), rows(5)...), budget.New(100))
		if e != api.OK || len(got.Args) != 2 || len(got.Args[0].Args) != 3 {
			t.Fatal(i, got, e)
		}
		within := got.Args[0].Args
		within[0].Head.Index, within[1].Head.Index, got.Args[1].Head.Index = 0, 0, 0
		if want := bind(c(2, c(0, v(0), bind(v(0, v(9)), a()), v(8)), v(0)), rows(5)...); !term.Equal(got, want) {
			t.Error(i, got)
		}
	}
}

func TestP9_3Compose(t *testing.T) {
	succ := bind(c(1, v(0)), a())
	wrong := bind(c(0), a())
	for name, x := range map[string]struct {
		s, t  subst.Subst
		units int
		want  subst.Subst
		e     api.Errno
		left  int
	}{
		"of none":                      {nil, nil, 0, nil, api.OK, 0},
		"the second one alone":         {nil, list(c(1), c(2)), 0, list(c(1), c(2)), api.OK, 0},
		"the first one alone":          {list(c(1), c(2, m(0))), nil, 3, list(c(1), c(2, m(0))), api.OK, 0},
		"one behind the other":         {one(0, c(1, m(1))), one(1, c(9)), 9, subst.Subst{{Meta: 0, Term: c(1, c(9))}, {Meta: 1, Term: c(9)}}, api.OK, 6},
		"functions":                    {one(1, bind(m(0, m(0, v(0))), a())), one(0, succ), 50, subst.Subst{{Meta: 0, Term: succ}, {Meta: 1, Term: bind(c(1, c(1, v(0))), a())}}, api.OK, 40},
		"its own metavariable":         {one(0, c(1, m(0))), one(0, c(9)), 9, one(0, c(1, c(9))), api.OK, 6},
		"the first one's goes first":   {list(c(5), c(6)), list(c(7), c(8)), 9, list(c(5), c(6)), api.OK, 7},
		"the second one's aren't done": {one(5, m(0)), list(m(1), m(0)), 9, subst.Subst{{Meta: 0, Term: m(1)}, {Meta: 1, Term: m(0)}, {Meta: 5, Term: m(1)}}, api.OK, 7},
		"between them":                 {numbered(1, 3, 5), numbered(0, 1, 2, 3, 4, 6), 3, subst.Subst{{Meta: 0, Term: c(0)}, {Meta: 1, Term: c(0)}, {Meta: 2, Term: c(2)}, {Meta: 3, Term: c(1)}, {Meta: 4, Term: c(4)}, {Meta: 5, Term: c(2)}, {Meta: 6, Term: c(5)}}, api.OK, 0},
		"of any numbers":               {numbered(math.MinInt, math.MaxInt), numbered(-1), 2, subst.Subst{{Meta: math.MinInt, Term: c(0)}, {Meta: -1, Term: c(0)}, {Meta: math.MaxInt, Term: c(1)}}, api.OK, 0},
		"within its own binders":       {one(0, bind(m(1), a(), a())), one(1, v(3)), 9, subst.Subst{{Meta: 0, Term: bind(v(5), a(), a())}, {Meta: 1, Term: v(3)}}, api.OK, 7},
		"the first is falling":         {numbered(1, 0), nil, 9, nil, api.ErrArg, 9},
		"the second is falling":        {nil, numbered(1, 0), 9, nil, api.ErrArg, 9},
		"the second has one twice":     {list(c(0)), numbered(1, 1), 0, nil, api.ErrArg, 0},
		"no units":                     {list(c(0)), nil, 0, nil, api.ErrFuel, 0},
		"too few units":                {list(c(0), c(1, c(2))), nil, 2, nil, api.ErrFuel, 0},
		"wrong at the second":          {list(c(0), m(0)), list(wrong), 9, nil, api.ErrArg, 7},
		"wrong ahead of too few":       {list(m(0), c(0)), list(wrong), 1, nil, api.ErrArg, 0},
		"too few ahead of wrong":       {list(c(0), c(0), m(0)), list(wrong), 2, nil, api.ErrFuel, 0},
		"too great":                    {list(c(1, m(1))), one(1, wide(nodes)), 6000, nil, api.ErrLong, 998},
		"too great ahead of wrong":     {list(wide(nodes+1), m(0)), list(wrong), 6000, nil, api.ErrLong, 999},
		"as great as can be":           {list(c(1, m(1))), one(1, wide(nodes-1)), 6000, list(c(1, wide(nodes-1)), wide(nodes-1)), api.OK, 999},
		"the second one's too great":   {list(c(1)), one(1, wide(nodes+9)), 9, list(c(1), wide(nodes+9)), api.OK, 8},
		"too great, but dropped":       {list(c(1)), list(doubled(80)), 9, list(c(1)), api.OK, 8},
		"too great, and too few units": {list(c(1)), one(1, doubled(80)), 0, nil, api.ErrFuel, 0},
	} {
		b := budget.New(x.units)
		got, e := subst.Compose(x.s, x.t, b)
		if e != x.e || !same(got, x.want) || b.Left() != x.left || b.Dry() != (x.e == api.ErrFuel) {
			t.Errorf("%s: %s, %d, %d are left; want %s, %d, %d", name, brief(got), e, b.Left(), brief(x.want), x.e, x.left)
		}
	}
}
