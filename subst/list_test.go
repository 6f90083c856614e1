package subst_test

import (
	"math"
	"slices"
	"testing"

	"filigree/api"
	"filigree/kind"
	"filigree/subst"
	"filigree/term"
)

// numbered: pairs of these metavariables, each with a term of its own.
func numbered(metas ...int) subst.Subst {
	var s subst.Subst
	for i, n := range metas {
		s = append(s, subst.Pair{Meta: n, Term: c(i)})
	}
	return s
}

// numbers: all lists of at most that many numbers from -1 to 2.
func numbers(most int) [][]int {
	all := [][]int{nil}
	for last := all; most > 0; most-- {
		var longer [][]int
		for _, l := range last {
			for n := -1; n < 3; n++ {
				longer = append(longer, append(slices.Clone(l), n))
			}
		}
		all = append(all, longer...)
		last = longer
	}
	return all
}

// picked: those of s that are wanted, by their numbers, equal ones as they
// stand.
func picked(s subst.Subst, want func(meta int) bool) subst.Subst {
	var made subst.Subst
	for n := -1; n < 3; n++ {
		for _, p := range s {
			if p.Meta == n && want(n) {
				made = append(made, p)
			}
		}
	}
	return made
}

func TestP9_1Right(t *testing.T) {
	for name, x := range map[string]struct {
		s    subst.Subst
		want bool
	}{
		"none":                     {nil, true},
		"empty":                    {subst.Subst{}, true},
		"one":                      {numbered(7), true},
		"rising":                   {numbered(0, 1, 5), true},
		"equal":                    {numbered(1, 1), false},
		"falling":                  {numbered(1, 0), false},
		"equal, of one term":       {subst.Subst{{Meta: 1}, {Meta: 1}}, false},
		"equal at the end":         {numbered(0, 3, 3), false},
		"falling at the end":       {numbered(0, 3, 2), false},
		"falling at first":         {numbered(3, 0, 4), false},
		"of all numbers":           {numbered(math.MinInt, -1, 0, math.MaxInt), true},
		"from the greatest on":     {numbered(math.MaxInt, math.MinInt), false},
		"a term that isn't right":  {one(0, doubled(80)), true},
		"a term without its kinds": {one(0, tm(9, -1, nil)), true},
	} {
		if subst.Right(x.s) != x.want {
			t.Errorf("%s: not %t", name, x.want)
		}
	}
}

// Each list of few numbers is held against the chapter's words.
func TestP9_1SmallLists(t *testing.T) {
	for _, l := range numbers(4) {
		s := numbered(l...)
		sorted := picked(s, func(int) bool { return true })
		rising := slices.IsSorted(l) && len(slices.Compact(slices.Clone(l))) == len(l)
		if subst.Right(s) != rising {
			t.Errorf("%v is right: not %t", l, rising)
		}
		once := len(slices.Compact(slices.Sorted(slices.Values(l)))) == len(l)
		if got, e := subst.Of(s...); once && (e != api.OK || !same(got, sorted)) || !once && (e != api.ErrArg || len(got) != 0) {
			t.Errorf("Of %v: %v, %d", l, got, e)
		}
		if got := subst.Domain(s); !slices.Equal(got, l) {
			t.Errorf("Domain of %v: %v", l, got)
		}
		for n := -1; n < 3; n++ {
			i := slices.Index(l, n)
			if got, ok := subst.Get(s, n); ok != (i >= 0) || ok && !term.Equal(got, c(i)) || !ok && !zero(got) {
				t.Errorf("Get of %v, %d: %v, %t", l, n, got, ok)
			}
			want := picked(append(picked(s, func(k int) bool { return k != n }), subst.Pair{Meta: n, Term: c(9)}), func(int) bool { return true })
			if got := subst.Set(s, n, c(9)); !same(got, want) {
				t.Errorf("Set of %v, %d: %v; want %v", l, n, got, want)
			}
		}
	}
}

func TestP9_1SmallListsWithout(t *testing.T) {
	for _, l := range numbers(4) {
		s := numbered(l...)
		for _, metas := range numbers(3) {
			want := picked(s, func(n int) bool { return !slices.Contains(metas, n) })
			if got := subst.Without(s, metas...); !same(got, want) {
				t.Errorf("%v without %v: %v; want %v", l, metas, got, want)
			}
		}
	}
}

func TestP9_1OfPairs(t *testing.T) {
	s, e := subst.Of(subst.Pair{Meta: 5, Term: c(1, v(0))}, subst.Pair{Meta: -2, Term: bind(v(0), a())})
	if want := (subst.Subst{{Meta: -2, Term: bind(v(0), a())}, {Meta: 5, Term: c(1, v(0))}}); e != api.OK || !same(s, want) {
		t.Error(s, e)
	}
	if s, e := subst.Of(); e != api.OK || len(s) != 0 {
		t.Error(s, e)
	}
	// The same pair twice is two of one metavariable, too.
	if got, e := subst.Of(s[0], s[1], s[0]); e != api.ErrArg || len(got) != 0 {
		t.Error(got, e)
	}
	if got, e := subst.Of(numbered(math.MaxInt, 0, math.MinInt)...); e != api.OK || !slices.Equal(subst.Domain(got), []int{math.MinInt, 0, math.MaxInt}) {
		t.Error(got, e)
	}
	// There is no limit to how many there are.
	var l []int
	for n := range 5000 {
		l = append(l, n*7%5000)
	}
	got, e := subst.Of(numbered(l...)...)
	if e != api.OK || len(got) != 5000 || got[7].Meta != 7 || !term.Equal(got[7].Term, c(1)) {
		t.Error(len(got), e)
	}
	if got := subst.Without(got, l[1:]...); !same(got, numbered(0)) {
		t.Error(got)
	}
}

func TestP9_1OfNumbersThatAreNotThere(t *testing.T) {
	s := numbered(0, 2)
	for _, n := range []int{math.MinInt, -1, 1, 3, math.MaxInt} {
		if got, ok := subst.Get(s, n); ok || !zero(got) {
			t.Error(n, got)
		}
		if got := subst.Without(s, n, n); !same(got, s) {
			t.Error(n, got)
		}
		if got := subst.Set(s, n, c(9)); len(got) != 3 || !subst.Right(got) || !same(subst.Without(got, n), s) {
			t.Error(n, got)
		}
	}
	if got := subst.Set(nil, 4, c(9)); !same(got, one(4, c(9))) {
		t.Error(got)
	}
	if got := subst.Set(s, 2, c(9)); !same(got, subst.Subst{{Meta: 0, Term: c(0)}, {Meta: 2, Term: c(9)}}) {
		t.Error(got)
	}
	if len(subst.Without(nil, 0)) != 0 || len(subst.Domain(nil)) != 0 || len(subst.Without(s, 0, 2)) != 0 || !same(subst.Without(s), s) {
		t.Error("of none")
	}
}

func TestP9_4Equal(t *testing.T) {
	f := bind(c(1, v(0)), a())
	all := []subst.Subst{
		nil, numbered(0), numbered(1), numbered(0, 1), numbered(1, 0), numbered(0, 0), numbered(0, 1, 2), numbered(-1), numbered(math.MaxInt),
		one(0, c(1)), one(0, v(0)), one(0, m(0)), one(0, c(0, c(0))), one(0, f), one(0, bind(f, b())), one(0, bind(f, a(), a())),
		one(0, bind(f, fn())), one(0, term.Body(f)), one(1, f), list(f, f), list(f, c(1)), list(c(1), f),
	}
	for i, x := range all {
		for j, y := range all {
			if subst.Equal(x, y) != (i == j) {
				t.Errorf("%v and %v: not %t", x, y, i == j)
			}
		}
	}
	if !subst.Equal(nil, subst.Subst{}) || !subst.Equal(list(f, c(2)), list(bind(c(1, v(0)), a()), c(2))) {
		t.Error("the same ones")
	}
	if !subst.Equal(one(0, bind(c(0), []kind.Type{}...)), numbered(0)) {
		t.Error("nil and empty")
	}
}

func TestP9_2Check(t *testing.T) {
	w, ctx := small(), []kind.Type{a(), fn()}
	f := bind(c(1, v(0)), a())
	k := bind(v(0), b(), a())
	for name, x := range map[string]struct {
		w    term.World
		ctx  []kind.Type
		s    subst.Subst
		want api.Errno
	}{
		"none":                                 {w, nil, nil, api.OK},
		"none, of no world":                    {term.World{}, nil, nil, api.OK},
		"a constant":                           {w, nil, one(0, c(0)), api.OK},
		"of each":                              {w, nil, list(c(0), f, bind(v(0, c(0)), fn()), k), api.OK},
		"metavariables":                        {w, nil, list(m(2, f), bind(m(1, m(0)), a())), api.OK},
		"its own metavariable":                 {w, nil, one(0, m(0)), api.OK},
		"loose ones":                           {w, ctx, list(v(1), bind(v(1, v(2)), a())), api.OK},
		"loose ones that aren't there":         {w, nil, one(0, v(1)), api.ErrType},
		"the first one isn't":                  {w, nil, list(f, f), api.ErrType},
		"the last one isn't":                   {w, nil, list(c(0), f, bind(v(0, c(0)), fn()), f), api.ErrType},
		"of another base":                      {w, nil, one(0, c(4, c(0))), api.ErrType},
		"not long":                             {w, nil, one(1, c(1)), api.ErrType},
		"no such constant":                     {w, nil, one(0, c(5)), api.ErrType},
		"no such metavariable within":          {w, nil, one(0, m(4)), api.ErrType},
		"no such metavariable":                 {w, nil, one(4, c(0)), api.ErrNone},
		"no such metavariable, far off":        {w, nil, one(math.MaxInt, c(0)), api.ErrNone},
		"a number below 0":                     {w, nil, one(-1, c(0)), api.ErrNone},
		"a number far below 0":                 {w, nil, one(math.MinInt, c(0)), api.ErrNone},
		"of no world":                          {term.World{}, nil, one(0, c(0)), api.ErrNone},
		"as deep as can be":                    {w, nil, one(0, nested(nest-1, c(0))), api.OK},
		"too deep":                             {w, nil, one(0, nested(nest, c(0))), api.ErrLong},
		"as great as can be":                   {w, nil, one(0, doubled(12)), api.OK},
		"too great":                            {w, nil, one(0, doubled(13)), api.ErrLong},
		"of a size beyond all numbers":         {w, nil, one(0, doubled(80)), api.ErrLong},
		"without an end":                       {w, nil, one(0, endless()), api.ErrLong},
		"too great, and of another type":       {w, nil, one(1, doubled(13)), api.ErrLong},
		"too great, and of no metavariable":    {w, nil, one(4, doubled(13)), api.ErrNone},
		"another type ahead of too great":      {w, nil, list(f, doubled(13)), api.ErrType},
		"too great ahead of another type":      {w, nil, list(doubled(13), c(0)), api.ErrLong},
		"another type ahead of none":           {w, nil, subst.Subst{{Meta: 0, Term: f}, {Meta: 9}}, api.ErrType},
		"too great ahead of none":              {w, nil, subst.Subst{{Meta: 0, Term: doubled(13)}, {Meta: 9}}, api.ErrLong},
		"none ahead of another type":           {w, nil, subst.Subst{{Meta: -1, Term: c(0)}, {Meta: 0, Term: f}}, api.ErrNone},
		"falling":                              {w, nil, subst.Subst{{Meta: 1, Term: f}, {Meta: 0, Term: c(0)}}, api.ErrArg},
		"twice":                                {w, nil, subst.Subst{{Meta: 0, Term: c(0)}, {Meta: 0, Term: c(0)}}, api.ErrArg},
		"falling, behind another type":         {w, nil, subst.Subst{{Meta: 2, Term: c(0)}, {Meta: 0, Term: c(0)}}, api.ErrArg},
		"falling, behind no such metavariable": {w, nil, subst.Subst{{Meta: 9, Term: c(0)}, {Meta: 0, Term: c(0)}}, api.ErrArg},
		"a world that isn't right":             {term.World{Metas: []kind.Type{kind.Of(-7)}}, []kind.Type{kind.Of(-7)}, one(0, v(0)), api.OK},
		"a long context":                       {w, rows(2000), one(0, v(1999)), api.OK},
		"beyond a long context":                {w, rows(2000), one(0, v(2000)), api.ErrType},
	} {
		if e := subst.Check(x.w, x.ctx, x.s); e != x.want {
			t.Errorf("%s: %d; want %d", name, e, x.want)
		}
	}
}
