package term_test

import (
	"cmp"
	"math"
	"math/big"
	"slices"
	"testing"

	"filigree/api"
	"filigree/kind"
	"filigree/term"
)

func sizeOf(t term.Term) int {
	n := 1
	for _, x := range t.Args {
		n += sizeOf(x)
	}
	return n
}

func depthOf(t term.Term) int {
	n := 1
	for _, x := range t.Args {
		n = max(n, 1+depthOf(x))
	}
	return n
}

// order: as the chapter words Compare, with sizes that are counted anew.
func order(a, b term.Term) int {
	if c := cmp.Compare(sizeOf(a), sizeOf(b)); c != 0 {
		return c
	}
	if c := cmp.Compare(len(a.Binds), len(b.Binds)); c != 0 {
		return c
	}
	for i := range a.Binds {
		if c := kind.Compare(a.Binds[i], b.Binds[i]); c != 0 {
			return c
		}
	}
	if c := cmp.Compare(a.Head.Kind, b.Head.Kind); c != 0 {
		return c
	}
	if c := cmp.Compare(a.Head.Index, b.Head.Index); c != 0 {
		return c
	}
	if c := cmp.Compare(len(a.Args), len(b.Args)); c != 0 {
		return c
	}
	for i := range a.Args {
		if c := order(a.Args[i], b.Args[i]); c != 0 {
			return c
		}
	}
	return 0
}

// some: small terms of many kinds.
func some() []term.Term {
	return upTo(3, []term.Head{head(0, 0), head(0, 2), head(1, 1), head(2, 0)}, nil, types(a()), types(b(), of(0, a())))
}

func TestTheKindsOfHeads(t *testing.T) {
	if term.Bound != 0 || term.Const != 1 || term.Meta != 2 {
		t.Error(term.Bound, term.Const, term.Meta)
	}
}

func TestP6_1RightKeepsToTheLimits(t *testing.T) {
	// 1 and 833 times 6.
	six := con(0, slices.Repeat([]term.Term{wide(5)}, 833)...)
	self := con(0, con(1), con(2))
	self.Args[1] = self
	for name, c := range map[string]struct {
		t    term.Term
		want bool
	}{
		"one":                      {con(0), true},
		"the zero term":            {term.Term{}, true},
		"size 5000, wide":          {wide(api.MaxNodes - 1), true},
		"size 5001, wide":          {wide(api.MaxNodes), false},
		"size 4999, in rows":       {six, true},
		"size 5000, in rows":       {con(0, append(slices.Clone(six.Args), con(1))...), true},
		"size 5001, in rows":       {con(0, append(slices.Clone(six.Args), con(1), con(1))...), false},
		"size 5001, the last":      {con(0, append(slices.Clone(six.Args), con(1, con(1)))...), false},
		"size 5001, the first":     {con(0, append([]term.Term{con(1, con(1))}, six.Args...)...), false},
		"depth 60":                 {chain(api.MaxNest, con(0)), true},
		"depth 61":                 {chain(api.MaxNest+1, con(0)), false},
		"depth 60, the last":       {con(0, con(1), chain(api.MaxNest-1, con(0))), true},
		"depth 61, the last":       {con(0, con(1), chain(api.MaxNest, con(0))), false},
		"depth 61, the first":      {con(0, chain(api.MaxNest, con(0)), con(1)), false},
		"size 5000 and depth 60":   {con(0, append(slices.Clone(wide(api.MaxNodes-api.MaxNest).Args), chain(api.MaxNest-1, con(0)))...), true},
		"many binders":             {lam(con(0), slices.Repeat(types(a()), 9000)...), true},
		"depth 60, with binders":   {chain(api.MaxNest, con(0), a(), b()), true},
		"a type that isn't right":  {lam(con(0), of(-1, of(math.MaxInt))), true},
		"heads that are not there": {con(math.MinInt, bound(-1), meta(math.MaxInt), term.Term{Head: head(9, 9)}), true},
		"many levels":              {chain(levels, con(0)), false},
		"very many":                {wide(1 << 20), false},
		"more than can be counted": {doubled(api.MaxNest), false},
		"itself within":            {self, false},
	} {
		if got := term.Right(c.t); got != c.want {
			t.Errorf("%s: %t", name, got)
		}
	}
}

func TestP6_1SizeAndDepth(t *testing.T) {
	for _, c := range []struct {
		t           term.Term
		size, depth int
	}{
		{term.Term{}, 1, 1},
		{con(0), 1, 1},
		{lam(meta(-5), a(), b()), 1, 1},
		{con(0, con(1)), 2, 2},
		{con(0, con(1), bound(7)), 3, 2},
		{con(0, con(1), con(2, con(3))), 4, 3},
		{con(0, con(2, con(3)), con(1)), 4, 3},
		{lam(con(0, lam(meta(0, lam(bound(0), a())), of(0, a(), a())), con(4)), b()), 4, 3},
		{wide(api.MaxNodes), api.MaxNodes + 1, 2},
		{chain(api.MaxNest+1, con(3), a()), api.MaxNest + 1, api.MaxNest + 1},
		{chain(levels, con(0), b()), levels, levels},
		{doubled(18), 1<<18 - 1, 18},
		{rich(), 9, 4},
	} {
		if size, depth := term.Size(c.t), term.Depth(c.t); size != c.size || depth != c.depth {
			t.Errorf("size %d, depth %d; want %d, %d", size, depth, c.size, c.depth)
		}
	}
	for _, x := range some() {
		if term.Size(x) != sizeOf(x) || term.Depth(x) != depthOf(x) {
			t.Fatalf("%s: size %d, depth %d", code(x), term.Size(x), term.Depth(x))
		}
	}
}

func TestP6_1Equal(t *testing.T) {
	for _, x := range append(some(), rich()) {
		if !term.Equal(x, twin(x)) || term.Compare(x, twin(x)) != 0 {
			t.Fatalf("%s isn't as itself in other memory", code(x))
		}
	}
	none := lam(con(3, con(2)), of(0, a()))
	empty := term.Term{Binds: types(of(0, kind.Type{Args: types()})), Head: head(1, 3), Args: []term.Term{{Binds: types(), Head: head(1, 2), Args: []term.Term{}}}}
	if !term.Equal(none, empty) || !term.Equal(empty, none) || term.Compare(none, empty) != 0 || term.Compare(empty, none) != 0 {
		t.Error("nil and empty aren't the same")
	}
	if x := chain(levels, con(0), a()); !term.Equal(x, chain(levels, con(0), a())) || term.Equal(x, chain(levels, con(1), a())) || term.Equal(x, chain(levels+1, con(0), a())) {
		t.Error("of many levels")
	}
}

func TestP6_1CompareByOneAfterAnother(t *testing.T) {
	for name, c := range map[string]struct{ less, more term.Term }{
		"by size":                              {lam(meta(9), b(), b()), con(0, bound(0))},
		"by size, ahead of how many arguments": {con(0, con(1), con(1)), con(0, con(0, con(0, con(0))))},
		"by how many binders":                  {lam(meta(9, meta(9)), of(9, of(9))), lam(bound(0, bound(0)), a(), a())},
		"by how many binders, of none":         {meta(9), lam(bound(0), a())},
		"by the first type":                    {lam(meta(9), a(), of(9)), lam(bound(0), b(), a())},
		"by the first type's size":             {lam(meta(9), of(9), of(9)), lam(bound(0), of(0, a()), a())},
		"by the second type":                   {lam(meta(9), a(), a()), lam(bound(0), a(), b())},
		"by the kind":                          {bound(9, meta(9)), con(0, bound(0))},
		"by the kind, Const and Meta":          {con(9), meta(0)},
		"by the kind, any":                     {term.Term{Head: head(-1, 9)}, bound(0)},
		"by the kind, of any size":             {term.Term{Head: head(math.MinInt, 9)}, term.Term{Head: head(math.MaxInt, 0)}},
		"by the index":                         {con(0, meta(9)), con(1, bound(0))},
		"by the index, ahead of how many":      {con(0, con(1), con(1)), con(1, con(1, con(1)))},
		"by the index, of any size":            {con(math.MinInt), con(math.MaxInt)},
		"by the index, below 0":                {bound(-2), bound(-1)},
		"by how many arguments":                {con(0, lam(meta(9, meta(9)), b())), con(0, bound(0), bound(0))},
		"by the first argument":                {con(0, con(0), con(9)), con(0, con(1), con(0))},
		"by the second argument":               {con(0, con(5), con(0)), con(0, con(5), con(1))},
		"by the first argument's size":         {con(0, con(9), con(9, con(9))), con(0, con(0, con(0)), con(0))},
		"by the first argument's binders":      {con(0, con(9), con(9)), con(0, lam(con(0), a()), con(0))},
		"by how many the first one has":        {con(0, con(0, con(9, con(9))), con(9)), con(0, con(0, con(0), con(0)), con(0))},
		"by the second one's size":             {con(0, wide(2), con(9, con(9)), wide(3)), con(0, wide(2), wide(2), wide(2))},
		"by the second one's, behind others":   {con(0, con(0, con(1, con(2)), con(3)), con(0, con(4))), con(0, con(0, con(1, con(2)), con(3)), con(0, con(5)))},
		"by the last argument":                 {wide(700), con(0, append(slices.Clone(wide(699).Args), con(2))...)},
		"by the innermost":                     {con(0, chain(levels, con(0), a()), con(1)), con(0, chain(levels, con(1), a()), con(0))},
		"by the innermost's type":              {chain(levels, lam(con(9), a())), chain(levels, lam(con(0), b()))},
	} {
		if got := term.Compare(c.less, c.more); got != -1 {
			t.Errorf("%s: %d; want -1", name, got)
		}
		if got := term.Compare(c.more, c.less); got != 1 {
			t.Errorf("%s, the other way: %d; want 1", name, got)
		}
		if term.Equal(c.less, c.more) || term.Equal(c.more, c.less) {
			t.Errorf("%s: the same", name)
		}
	}
}

func TestP6_1CompareAllSmallTerms(t *testing.T) {
	for _, all := range [][]term.Term{
		upTo(3, []term.Head{head(0, 0), head(1, 1), head(2, 0)}, nil, types(a())),
		upTo(2, []term.Head{head(-1, 0), head(1, -1), head(7, 7)}, nil, types(a()), types(of(0, a())), types(a(), b())),
		upTo(7, []term.Head{head(1, 0)}, nil),
	} {
		for _, x := range all {
			for _, y := range all {
				got, want := term.Compare(x, y), order(x, y)
				if got != want || term.Equal(x, y) != (want == 0) || same(x, y) != (want == 0) {
					t.Fatalf("%s and %s: %d, %t; want %d", code(x), code(y), got, term.Equal(x, y), want)
				}
			}
		}
	}
}

// looseOf: the loose indexes of t, that stands within so many of its own
// binders, as they come.
func looseOf(t term.Term, within int) []int {
	within += len(t.Binds)
	var l []int
	if t.Head.Kind == term.Bound && t.Head.Index >= within {
		l = append(l, t.Head.Index-within)
	}
	for _, x := range t.Args {
		l = append(l, looseOf(x, within)...)
	}
	return l
}

func TestP6_3Loose(t *testing.T) {
	for _, c := range []struct {
		t    term.Term
		want int
	}{
		{con(5, meta(7)), 0},
		{term.Term{}, 1},
		{bound(0), 1},
		{bound(4), 5},
		{lam(bound(0), a()), 0},
		{lam(bound(1), a(), a()), 0},
		{lam(bound(2), a(), a()), 1},
		{lam(bound(5), a(), a()), 4},
		{lam(con(0, lam(bound(1), a())), a()), 0},
		{lam(con(0, lam(bound(2), a())), a()), 1},
		{con(0, bound(1), bound(3), bound(2)), 4},
		{con(0, lam(bound(3), a()), bound(2)), 3},
		{con(0, lam(bound(0), a()), bound(0)), 1},
		{bound(7, bound(2)), 8},
		{bound(2, bound(7)), 8},
		{bound(-1), 0},
		{bound(math.MinInt), 0},
		{lam(bound(math.MinInt), a()), 0},
		{con(9, term.Term{Head: head(3, 7)}, term.Term{Head: head(-1, 7)}), 0},
		{bound(998), 999},
		{bound(999), 1000},
		{bound(1000), 1001},
		{bound(1001), 1001},
		{lam(bound(1001), a()), 1001},
		{lam(bound(1000), a()), 1000},
		{bound(math.MaxInt), 1001},
		{lam(con(0, bound(math.MaxInt), bound(3)), a()), 1001},
		{chain(levels, bound(levels), a()), 2},
		{chain(levels, bound(levels-2), a()), 0},
		{rich(), 6},
	} {
		if got := term.Loose(c.t); got != c.want {
			t.Errorf("Loose(%.60s): %d; want %d", code(c.t), got, c.want)
		}
	}
	for _, x := range some() {
		if got, want := term.Loose(x), slices.Max(append(looseOf(x, 0), -1))+1; got != want {
			t.Fatalf("Loose(%s): %d; want %d", code(x), got, want)
		}
	}
}

// shifted: t, that stands within so many of its own binders, as the chapter
// words Shift.
func shifted(t term.Term, by, from, within int) term.Term {
	within += len(t.Binds)
	c := term.Term{Binds: t.Binds, Head: t.Head}
	if t.Head.Kind == term.Bound && t.Head.Index >= within && t.Head.Index-within >= from {
		c.Head.Index += by
	}
	for _, x := range t.Args {
		c.Args = append(c.Args, shifted(x, by, from, within))
	}
	return c
}

func TestP6_3Shift(t *testing.T) {
	for _, c := range []struct {
		t, want  term.Term
		by, from int
	}{
		{bound(0), bound(3), 3, 0},
		{bound(0), bound(0), 3, 1},
		{bound(3), bound(0), -3, 0},
		{bound(3), bound(2), -1, 2},
		{bound(3), bound(3), -9, 4},
		{con(5, meta(6)), con(5, meta(6)), 7, 0},
		{lam(bound(0), a()), lam(bound(0), a()), 4, 0},
		{lam(bound(1), a()), lam(bound(5), a()), 4, 0},
		{lam(con(0, bound(0), bound(1), bound(2)), a()), lam(con(0, bound(0), bound(1), bound(12)), a()), 10, 1},
		{lam(con(0, lam(con(1, bound(0), bound(2), bound(3), bound(4)), b(), a())), a()), lam(con(0, lam(con(1, bound(0), bound(2), bound(8), bound(9)), b(), a())), a()), 5, 0},
		{bound(2, bound(3), bound(1)), bound(4, bound(5), bound(1)), 2, 2},
		{bound(-1, bound(1)), bound(-1, bound(2)), 1, 0},
		{term.Term{Head: head(3, 5)}, term.Term{Head: head(3, 5)}, 2, 0},
		{bound(0), bound(1000), 1000, 0},
		{bound(1), bound(1000), 999, 0},
		{lam(bound(1), a()), lam(bound(1001), a()), 1000, 0},
		{bound(1000), bound(1000), 0, 0},
		{bound(1000), bound(1000), 0, 1000},
		{bound(5000), bound(1000), -4000, 0},
		{bound(math.MaxInt), bound(0), -math.MaxInt, 0},
		{bound(math.MaxInt - 1), bound(math.MaxInt - 1), math.MaxInt, math.MaxInt},
		{bound(5), bound(5), math.MinInt, 6},
		{con(0), con(0), math.MaxInt, 0},
		{con(0), con(0), math.MinInt, math.MaxInt},
		{chain(levels, bound(levels-1), a()), chain(levels, bound(levels+4), a()), 5, 0},
	} {
		if got, e := term.Shift(c.t, c.by, c.from); e != api.OK || !same(got, c.want) {
			t.Errorf("Shift(%.60s, %d, %d): %.60s, %d; want %.60s", code(c.t), c.by, c.from, code(got), e, code(c.want))
		}
	}
}

func TestP6_3ShiftOfAllSmallTerms(t *testing.T) {
	for _, x := range some() {
		for by := -3; by <= 3; by++ {
			for from := -1; from <= 3; from++ {
				moved := slices.DeleteFunc(looseOf(x, 0), func(i int) bool { return i < from })
				wrong := from < 0 || len(moved) > 0 && slices.Min(moved)+by < from
				got, e := term.Shift(x, by, from)
				if wrong && (e != api.ErrArg || !zero(got)) || !wrong && (e != api.OK || !same(got, shifted(x, by, from, 0))) {
					t.Fatalf("Shift(%s, %d, %d): %s, %d", code(x), by, from, code(got), e)
				}
			}
		}
	}
}

func TestP6_3ShiftRefuses(t *testing.T) {
	for _, c := range []struct {
		t        term.Term
		by, from int
		want     api.Errno
	}{
		{con(0), 0, -1, api.ErrArg},
		{con(0), 5, math.MinInt, api.ErrArg},
		{bound(0), 2000, -1, api.ErrArg},
		{bound(0), -1, 0, api.ErrArg},
		{bound(3), -4, 0, api.ErrArg},
		{bound(3), -2, 2, api.ErrArg},
		{lam(bound(1), a()), -1, 0, api.ErrArg},
		{con(0, bound(5), lam(bound(2), a())), -2, 0, api.ErrArg},
		{bound(0), math.MinInt, 0, api.ErrArg},
		{bound(math.MaxInt), math.MinInt, 0, api.ErrArg},
		{bound(math.MaxInt), -1, math.MaxInt, api.ErrArg},
		{bound(0), 1001, 0, api.ErrLong},
		{bound(1000), 1, 0, api.ErrLong},
		{bound(1000), 1, 1000, api.ErrLong},
		{lam(bound(1), a()), 1001, 0, api.ErrLong},
		{bound(1001), 0, 0, api.ErrLong},
		{bound(5000), -3999, 0, api.ErrLong},
		{bound(0), math.MaxInt, 0, api.ErrLong},
		{bound(math.MaxInt), math.MaxInt, 0, api.ErrLong},
		{bound(math.MaxInt), 0, math.MaxInt, api.ErrLong},
		{con(0, bound(0), bound(999)), 2, 0, api.ErrLong},
		{con(0, bound(999), bound(0)), 2, 0, api.ErrLong},
		// ErrArg is named first, wherever in the term it comes of.
		{con(0, bound(0), bound(5000)), -1, 0, api.ErrArg},
		{con(0, bound(5000), bound(0)), -1, 0, api.ErrArg},
		{bound(5000, lam(bound(1), a())), -1, 0, api.ErrArg},
		{bound(5000), 1, -1, api.ErrArg},
		{chain(levels, bound(levels-1), a()), -1, 0, api.ErrArg},
	} {
		if got, e := term.Shift(c.t, c.by, c.from); e != c.want || !zero(got) {
			t.Errorf("Shift(%.60s, %d, %d): %.60s, %d; want %d", code(c.t), c.by, c.from, code(got), e, c.want)
		}
	}
}

// shiftError: Shift's error as the chapter words it, of numbers that have no end.
func shiftError(t term.Term, by, from int) api.Errno {
	if from < 0 {
		return api.ErrArg
	}
	e := api.OK
	for _, i := range looseOf(t, 0) {
		grown := new(big.Int).Add(big.NewInt(int64(i)), big.NewInt(int64(by)))
		switch {
		case i < from:
		case grown.Cmp(big.NewInt(int64(from))) < 0:
			return api.ErrArg
		case grown.Cmp(big.NewInt(api.MaxItems)) > 0:
			e = api.ErrLong
		}
	}
	return e
}

func TestP6_3ShiftByAnyNumbers(t *testing.T) {
	for _, i := range odd() {
		x := con(0, bound(i), lam(bound(i), a()), bound(4))
		for _, by := range odd() {
			for _, from := range odd() {
				y, e := term.Shift(x, by, from)
				if want := shiftError(x, by, from); e != want || e != api.OK && !zero(y) || e == api.OK && !same(y, shifted(x, by, from, 0)) {
					t.Fatalf("Shift(%s, %d, %d): %s, %d; want %d", code(x), by, from, code(y), e, want)
				}
			}
		}
	}
}

func TestP6_3Metas(t *testing.T) {
	for name, c := range map[string]struct {
		l    []term.Term
		want []int
	}{
		"no terms":          {nil, nil},
		"an empty list":     {[]term.Term{}, nil},
		"none":              {[]term.Term{con(3, bound(4)), {Head: head(3, 1)}}, nil},
		"one":               {[]term.Term{meta(4)}, []int{4}},
		"within":            {[]term.Term{con(0, lam(bound(1, meta(2)), a()), meta(5))}, []int{2, 5}},
		"within another":    {[]term.Term{meta(7, meta(3, meta(9)))}, []int{3, 7, 9}},
		"rising, each once": {[]term.Term{meta(9, meta(1)), meta(4), con(2, meta(9), meta(4), meta(0))}, []int{0, 1, 4, 9}},
		"of any number":     {[]term.Term{meta(math.MaxInt), meta(0, meta(math.MinInt)), meta(-1)}, []int{math.MinInt, -1, 0, math.MaxInt}},
		"many":              {slices.Repeat([]term.Term{meta(2, meta(1))}, 3000), []int{1, 2}},
		"of many levels":    {[]term.Term{chain(levels, meta(6), a())}, []int{6}},
	} {
		if got := term.Metas(c.l...); !slices.Equal(got, c.want) {
			t.Errorf("%s: %v; want %v", name, got, c.want)
		}
	}
}

// headsOf: the heads of t as they are seen from outside so many binders, as
// they come; of those that are bound there only the kind and -1.
func headsOf(t term.Term, within int) []term.Head {
	within += len(t.Binds)
	h := t.Head
	if h.Kind == term.Bound {
		h.Index = max(-1, h.Index-within)
	}
	l := []term.Head{h}
	for _, x := range t.Args {
		l = append(l, headsOf(x, within)...)
	}
	return l
}

func TestP6_3Count(t *testing.T) {
	two := lam(con(1, bound(0), bound(2), lam(bound(3), b()), con(1), meta(1, bound(2))), a())
	for _, c := range []struct {
		t    term.Term
		h    term.Head
		want int
	}{
		{two, head(1, 1), 2},
		{two, head(2, 1), 1},
		{two, head(1, 0), 0},
		{two, head(2, 2), 0},
		{two, head(0, 1), 3},
		{two, head(0, 0), 0},
		{two, head(0, 2), 0},
		{two, head(0, -1), 0},
		{lam(bound(0), a()), head(0, 0), 0},
		{lam(bound(0), a()), head(0, -1), 0},
		{lam(bound(1), a()), head(0, 0), 1},
		{bound(-1), head(0, -1), 0},
		{bound(math.MinInt), head(0, math.MinInt), 0},
		{lam(bound(math.MinInt), a()), head(0, math.MaxInt), 0},
		{lam(bound(math.MinInt), a()), head(0, math.MinInt), 0},
		{lam(bound(0), a()), head(0, math.MaxInt), 0},
		{bound(math.MaxInt), head(0, math.MaxInt), 1},
		{lam(bound(math.MaxInt), a()), head(0, math.MaxInt-1), 1},
		{bound(2000), head(0, 2000), 1},
		{con(-1, con(-1)), head(1, -1), 2},
		{term.Term{Head: head(3, 0)}, head(0, 0), 0},
		{term.Term{Head: head(3, 0)}, head(3, 0), 1},
		{lam(term.Term{Head: head(3, 1)}, a()), head(3, 0), 0},
		{wide(4000), head(1, 1), 4000},
		{chain(levels, bound(levels+1), a()), head(0, 2), 1},
		{chain(levels, bound(levels+1), a()), head(1, 0), levels - 1},
	} {
		if got := term.Count(c.t, c.h); got != c.want {
			t.Errorf("Count(%.60s, %v): %d; want %d", code(c.t), c.h, got, c.want)
		}
	}
	for _, x := range some() {
		all := headsOf(x, 0)
		for k := range 4 {
			for i := range 5 {
				want := 0
				for _, h := range all {
					if h == head(k, i) {
						want++
					}
				}
				if got := term.Count(x, head(k, i)); got != want {
					t.Fatalf("Count(%s, %d %d): %d; want %d", code(x), k, i, got, want)
				}
			}
		}
	}
}

func TestP6_4BodyAndCopy(t *testing.T) {
	for _, x := range append(some(), rich(), bound(-1), lam(con(math.MaxInt), of(-1)), lam(term.Term{Head: head(-3, 4)}, a()), chain(levels, bound(7), a())) {
		if got := term.Copy(x); !same(got, x) {
			t.Fatalf("Copy(%.60s): %.60s", code(x), code(got))
		}
		if got := term.Body(x); len(got.Binds) != 0 || !same(lam(got, x.Binds...), x) {
			t.Fatalf("Body(%.60s): %.60s", code(x), code(got))
		}
	}
}

func TestP6_5ShiftByAndBack(t *testing.T) {
	for _, x := range append(some(), rich()) {
		for by := range 4 {
			for from := range 4 {
				y, e := term.Shift(x, by, from)
				z, f := term.Shift(y, -by, from)
				if e != api.OK || f != api.OK || !same(z, x) {
					t.Fatalf("%s, by %d from %d: %s, %d; back: %s, %d", code(x), by, from, code(y), e, code(z), f)
				}
			}
		}
	}
}

func TestP6_5ArgumentsAreNotChanged(t *testing.T) {
	x, y, w, ctx, list := rich(), rich(), small(), types(a(), of(0, b())), []term.Term{rich(), meta(3), meta(1)}
	use(w, ctx, x, y, of(0, of(0, a()), b()))
	term.Metas(list...)
	if !same(x, rich()) || !same(y, rich()) || codeWorld(w) != codeWorld(small()) || codeType(of(0, ctx...)) != codeType(of(0, a(), of(0, b()))) {
		t.Error(code(x), code(y), codeWorld(w), ctx)
	}
	if !same(con(0, list...), con(0, rich(), meta(3), meta(1))) {
		t.Error("the list", code(con(0, list...)))
	}
	// Nothing is put into the room behind a list either.
	room := append(make([]kind.Type, 0, 9), ctx...)
	x.Args, x.Binds = append(make([]term.Term, 0, 9), x.Args...), append(make([]kind.Type, 0, 9), x.Binds...)
	use(w, room, x, x, of(0, x.Binds...))
	behind := slices.Concat(room[:9][len(room):], x.Binds[:9][len(x.Binds):])
	if codeType(of(0, behind...)) != codeType(of(0, make([]kind.Type, len(behind))...)) || !same(con(0, x.Args[:9][len(x.Args):]...), con(0, make([]term.Term, 9-len(x.Args))...)) {
		t.Error("behind the lists")
	}
}

// use calls all that there is on these.
func use(w term.World, ctx []kind.Type, x, y term.Term, of kind.Type) {
	term.Right(x)
	term.Size(x)
	term.Depth(x)
	term.Equal(x, y)
	term.Compare(x, y)
	term.HeadType(w, ctx, x.Head)
	term.TypeOf(w, ctx, x)
	term.Check(w, ctx, x, of)
	term.Loose(x)
	term.Shift(x, 1, 1)
	term.Metas(x, y)
	term.Count(x, y.Head)
	term.Eta(x.Head, of)
	term.Var(x)
	term.Body(x)
	term.Copy(x)
	term.RightWorld(w)
}

// makers: each call that tells a term, on what is handed in.
func makers() map[string]func(x term.Term, of kind.Type) term.Term {
	return map[string]func(x term.Term, of kind.Type) term.Term{
		"Copy":       func(x term.Term, _ kind.Type) term.Term { return term.Copy(x) },
		"Body":       func(x term.Term, _ kind.Type) term.Term { return term.Body(x) },
		"Eta":        func(_ term.Term, of kind.Type) term.Term { return term.Eta(head(1, 0), of) },
		"Shift":      func(x term.Term, _ kind.Type) term.Term { y, _ := term.Shift(x, 3, 1); return y },
		"Shift by 0": func(x term.Term, _ kind.Type) term.Term { y, _ := term.Shift(x, 0, 0); return y },
		"Shift none": func(x term.Term, _ kind.Type) term.Term { y, _ := term.Shift(x, 1, 900); return y },
	}
}

func TestP6_5AnswersAreNewMemory(t *testing.T) {
	high := of(1, of(0, of(1, a()), a()), of(0, of(1, a()), a()))
	for name, make := range makers() {
		x, u := rich(), twinType(high)
		want := code(make(rich(), high))
		spoil(make(x, u))
		if !same(x, rich()) || codeType(u) != codeType(high) {
			t.Errorf("%s: who changes the answer changes the arguments", name)
		}
		got := make(x, u)
		spoil(x)
		spoilTypes(u.Args)
		if code(got) != want {
			t.Errorf("%s: who changes the arguments changes the answer", name)
		}
		grow(got)
		if code(got) != want {
			t.Errorf("%s: a list runs into another one", name)
		}
	}
	l := term.Metas(meta(3, meta(1)))
	l[0], l[1] = 8, 9
	if again := term.Metas(meta(3, meta(1))); !slices.Equal(again, []int{1, 3}) {
		t.Error("Metas", again)
	}
}

func TestP6_5NoTwoListsOfAnAnswerShareMemory(t *testing.T) {
	u := of(0, of(1, a()), b())
	part := lam(con(4, lam(bound(5), u)), u, u)
	whole := con(0, part, part)
	for name, make := range map[string]func() term.Term{
		"Copy":  func() term.Term { return term.Copy(whole) },
		"Body":  func() term.Term { return term.Body(whole) },
		"Shift": func() term.Term { y, _ := term.Shift(whole, 0, 0); return y },
	} {
		got := make()
		spoil(got.Args[0])
		if !same(got.Args[1], part) {
			t.Errorf("%s: two arguments are changed together", name)
		}
		got = make()
		spoilTypes(got.Args[0].Binds[:1])
		if codeType(got.Args[0].Binds[1]) != codeType(u) {
			t.Errorf("%s: two types are changed together", name)
		}
	}
	got := term.Eta(head(1, 0), of(0, u, u))
	want := code(got.Args[1])
	spoilTypes(got.Binds)
	if code(got.Args[1]) != want {
		t.Error("Eta: binders and an argument are changed together")
	}
}

// P1: no argument makes a call panic, and beside an error stand zero values.
func TestP1NoCallPanics(t *testing.T) {
	terms := []term.Term{{}, {Binds: types(), Args: []term.Term{}}, rich(), wide(6000), chain(levels, bound(3), a()), doubled(14), lam(con(0), slices.Repeat(types(a()), 3000)...)}
	for _, k := range odd() {
		for _, i := range odd() {
			terms = append(terms, lam(term.Term{Head: head(k, i), Args: []term.Term{bound(i), meta(k)}}, of(k, of(i))))
		}
	}
	worlds := []term.World{{}, small(), {Bases: -1}, {Bases: math.MaxInt, Consts: types(of(-1), of(0, of(7))), Metas: types(of(math.MinInt))}}
	for _, x := range terms {
		for _, w := range worlds {
			for _, ctx := range [][]kind.Type{nil, types(of(-1), of(0, a()))} {
				use(w, ctx, x, terms[2], of(0, x.Binds...))
				use(w, ctx, terms[1], x, of(x.Head.Index, of(x.Head.Kind)))
			}
		}
	}
}

// P2: a call answers the same each time, whatever was called between.
func TestP2TheSameAnswers(t *testing.T) {
	tell := func() []string {
		var l []string
		for _, x := range append(some(), rich()) {
			y, e := term.Shift(x, -1, 0)
			u, f := term.TypeOf(small(), types(b(), of(1, a())), x)
			h, ok := term.Var(x)
			z := con(int(e), y, con(int(f)), lam(con(term.Loose(x)), u), term.Term{Head: h}, term.Eta(h, u))
			for _, n := range append(term.Metas(x, z), term.Count(z, h), term.Compare(x, z)) {
				z.Args = append(z.Args, con(n))
			}
			if ok && term.Equal(x, term.Copy(x)) {
				z = lam(z, u)
			}
			l = append(l, code(z))
		}
		return l
	}
	first := tell()
	for range 2 {
		if !slices.Equal(tell(), first) {
			t.Fatal("not the same")
		}
	}
}
