package pattern_test

import (
	"fmt"
	"math"
	"slices"
	"strings"
	"testing"

	"filigree/api"
	"filigree/kind"
	"filigree/pattern"
	"filigree/term"
)

func TestP11_2Take(t *testing.T) {
	for name, k := range map[string]struct {
		t     term.Term
		binds []kind.Type
		vars  []int
		want  term.Term
		e     api.Errno
	}{
		"nothing of nothing":            {c(3), nil, nil, c(3), api.OK},
		"the zero term":                 {term.Term{}, nil, nil, v(0), api.OK},
		"none, within none":             {v(4, v(0)), nil, nil, v(4, v(0)), api.OK},
		"one":                           {v(0), types(a()), []int{0}, bind(v(0), a()), api.OK},
		"the inner one of two":          {v(0), types(a(), b()), []int{0}, bind(v(0), b()), api.OK},
		"the outer one of two":          {v(1), types(a(), b()), []int{1}, bind(v(0), a()), api.OK},
		"as they stand":                 {c(0, v(1), v(0)), types(a(), b()), []int{1, 0}, bind(c(0, v(1), v(0)), a(), b()), api.OK},
		"the other way round":           {c(0, v(1), v(0)), types(a(), b()), []int{0, 1}, bind(c(0, v(0), v(1)), b(), a()), api.OK},
		"three, turned":                 {c(0, v(0), v(1), v(2)), types(a(), b(), fn()), []int{1, 2, 0}, bind(c(0, v(0), v(2), v(1)), b(), a(), fn()), api.OK},
		"one that isn't there":          {c(0, v(0)), types(a(), b()), []int{1, 0}, bind(c(0, v(0)), a(), b()), api.OK},
		"none of which is there":        {c(0, c(1)), types(a(), b()), []int{0, 1}, bind(c(0, c(1)), b(), a()), api.OK},
		"ahead of its own":              {bind(v(0), fn()), types(a()), []int{0}, bind(v(0), a(), fn()), api.OK},
		"behind its own":                {bind(v(1), fn()), types(a()), []int{0}, bind(v(1), a(), fn()), api.OK},
		"a function":                    {v(0, v(1)), types(a(), fn()), []int{0, 1}, bind(v(1, v(0)), fn(), a()), api.OK},
		"within binders":                {c(0, bind(c(0, v(0), bind(v(2), b())), fn())), types(a()), []int{0}, bind(c(0, bind(c(0, v(0), bind(v(2), b())), fn())), a()), api.OK},
		"within binders, turned":        {c(0, bind(c(0, v(1), v(2)), fn())), types(a(), b()), []int{0, 1}, bind(c(0, bind(c(0, v(2), v(1)), fn())), b(), a()), api.OK},
		"further out, none taken":       {v(2), types(a(), b()), nil, v(0), api.OK},
		"further out, some taken":       {v(2), types(a(), b(), fn()), []int{2}, bind(v(0), a()), api.OK},
		"further out, all taken":        {v(5), types(a(), b()), []int{1, 0}, bind(v(5), a(), b()), api.OK},
		"further out, one of three":     {v(7), types(a(), b(), fn()), []int{1}, bind(v(5), b()), api.OK},
		"further out, within":           {c(0, bind(v(3, v(2)), b())), types(a(), b()), []int{1}, bind(c(0, bind(v(2, v(1)), b())), a()), api.OK},
		"metavariables stay":            {m(1, v(0), m(0)), types(a()), []int{0}, bind(m(1, v(0), m(0)), a()), api.OK},
		"numbers alone aren't indexes":  {c(0, m(1)), types(a(), b()), nil, c(0, m(1)), api.OK},
		"no kind of head isn't either":  {tm(3, 0, []term.Term{tm(-1, 1, nil)}), types(a(), b()), nil, tm(3, 0, []term.Term{tm(-1, 1, nil)}), api.OK},
		"below 0 stays":                 {v(-1, bind(v(-7), a())), types(a()), []int{0}, bind(v(-1, bind(v(-7), a())), a()), api.OK},
		"the least stays":               {v(math.MinInt), types(a()), []int{0}, bind(v(math.MinInt), a()), api.OK},
		"the greatest":                  {v(math.MaxInt), types(a(), b()), []int{0}, bind(v(math.MaxInt-1), b()), api.OK},
		"the greatest, all taken":       {v(math.MaxInt), types(a(), b()), []int{0, 1}, bind(v(math.MaxInt), b(), a()), api.OK},
		"a variable too great":          {c(0), types(a()), []int{1}, term.Term{}, api.ErrArg},
		"a variable, within none":       {c(0), nil, []int{0}, term.Term{}, api.ErrArg},
		"a variable below 0":            {c(0), types(a()), []int{-1}, term.Term{}, api.ErrArg},
		"the second one too great":      {c(0), types(a()), []int{0, 1}, term.Term{}, api.ErrArg},
		"two the same":                  {c(0), types(a(), b()), []int{1, 1}, term.Term{}, api.ErrArg},
		"two the same, one between":     {c(0), types(a(), b()), []int{1, 0, 1}, term.Term{}, api.ErrArg},
		"the greatest variable":         {c(0), types(a(), b()), []int{math.MaxInt}, term.Term{}, api.ErrArg},
		"the least variable":            {c(0), types(a(), b()), []int{math.MinInt}, term.Term{}, api.ErrArg},
		"not taken out":                 {v(0), types(a(), b()), []int{1}, term.Term{}, api.ErrClash},
		"not taken out, the outer one":  {v(1), types(a(), b()), []int{0}, term.Term{}, api.ErrClash},
		"not taken out, of none":        {v(0), types(a()), nil, term.Term{}, api.ErrClash},
		"not taken out, behind":         {c(0, v(0), c(1, v(0), v(1))), types(a(), b()), []int{0}, term.Term{}, api.ErrClash},
		"not taken out, within binders": {c(0, bind(v(2), fn())), types(a(), b()), []int{0}, term.Term{}, api.ErrClash},
		"not taken out, further ahead":  {c(0, v(1), v(0)), types(a(), b()), []int{0}, term.Term{}, api.ErrClash},
		"a head that isn't taken out":   {v(1, v(0)), types(fn(), a()), []int{0}, term.Term{}, api.ErrClash},
		"both, too great":               {v(0), types(a(), b()), []int{1, 2}, term.Term{}, api.ErrArg},
		"both, two the same":            {v(0), types(a(), b()), []int{1, 1}, term.Term{}, api.ErrArg},
		"types within types":            {v(1), types(high(), fn()), []int{1}, bind(v(0), high()), api.OK},
	} {
		if got, e := pattern.Take(k.t, k.binds, k.vars...); e != k.e || !term.Equal(got, k.want) {
			t.Errorf("%s: %v, %d", name, got, e)
		}
	}
}

// names tells t by names instead of indexes, where these are the names around
// it, the innermost last, and those further out have numbers.
func names(t term.Term, around ...string) string {
	var s strings.Builder
	s.WriteString("(")
	for i, u := range t.Binds {
		s.WriteString(fmt.Sprint(u, "."))
		around = append(around[:len(around):len(around)], fmt.Sprint("own", len(around), "-", i))
	}
	s.WriteString(name(t.Head, around))
	for _, x := range t.Args {
		s.WriteString(names(x, around...))
	}
	s.WriteString(")")
	return s.String()
}

func name(h term.Head, around []string) string {
	switch {
	case h.Kind != term.Bound:
		return fmt.Sprint(h)
	case h.Index >= len(around):
		return fmt.Sprint("out", h.Index-len(around))
	}
	return around[len(around)-1-h.Index]
}

func TestP11_2TakeOfAllSmallTerms(t *testing.T) {
	binds := types(fn(), a(), high())
	taken, clashed := 0, 0
	for _, x := range ones() {
		for n := range len(binds) + 1 {
			around := []string{"x", "y", "z"}[:n]
			want := names(x, around...)
			for _, vars := range choices(n) {
				got, e := pattern.Take(x, binds[:n], vars...)
				if e != api.OK {
					if e != api.ErrClash || !zero(got) || !anyLoose(x, n, vars) {
						t.Fatalf("%v within %d, %v: %v, %d", x, n, vars, got, e)
					}
					clashed++
					continue
				}
				var front []string
				for i, v := range vars {
					front = append(front, around[n-1-v])
					if !kind.Equal(got.Binds[i], binds[n-1-v]) {
						t.Fatalf("%v within %d, %v: %v", x, n, vars, got)
					}
				}
				// The own binders' names hang on how many are around.
				open := bind(got, got.Binds[len(vars):]...)
				if is := renumbered(names(open, front...), n-len(vars)); is != want || anyLoose(x, n, vars) {
					t.Fatalf("%v within %d, %v: %v: %s; want %s", x, n, vars, got, is, want)
				}
				taken++
			}
		}
	}
	if taken < 50000 || clashed < 40000 {
		t.Error("too few:", taken, clashed)
	}
}

// renumbered: the names of own binders, each with a number that is greater by
// so many.
func renumbered(s string, by int) string {
	parts := strings.Split(s, "own")
	for i := 1; i < len(parts); i++ {
		var n int
		fmt.Sscanf(parts[i], "%d-", &n)
		_, rest, _ := strings.Cut(parts[i], "-")
		parts[i] = fmt.Sprint(n+by, "-", rest)
	}
	return strings.Join(parts, "own")
}

// anyLoose: whether an index of t that is loose and below n isn't one of vars.
func anyLoose(t term.Term, n int, vars []int) bool {
	for i := range n {
		if !slices.Contains(vars, i) && term.Count(t, term.Head{Kind: term.Bound, Index: i}) > 0 {
			return true
		}
	}
	return false
}

// All lists of variables, right ones and wrong ones, of terms in which each
// index is, or none is.
func TestP11_2TakeByAllVariables(t *testing.T) {
	for _, x := range []term.Term{c(0), v(0), c(0, v(0), v(1), v(2)), c(0, v(5))} {
		for n := range 4 {
			for _, vars := range lists(3, -1, 0, 1, 2, 3) {
				want := api.OK
				switch {
				case !among(vars, n) || !distinct(vars):
					want = api.ErrArg
				case anyLoose(x, n, vars):
					want = api.ErrClash
				}
				if got, e := pattern.Take(x, types(a(), b(), fn())[:n], vars...); e != want || e != api.OK && !zero(got) {
					t.Errorf("%v within %d, %v: %v, %d", x, n, vars, got, e)
				}
				if got, e := pattern.Make(3, types(a(), b(), fn())[:n], vars...); (e == api.ErrArg) != (want == api.ErrArg) || e != api.OK && !zero(got) {
					t.Errorf("Make within %d, %v: %v, %d", n, vars, got, e)
				}
			}
		}
	}
}

// As many binders and variables as may be, more than MaxItems.
func TestP11_2TakeOfMany(t *testing.T) {
	for _, n := range []int{api.MaxItems, api.MaxItems + 1, 3000, levels} {
		binds, turned := make([]kind.Type, n), make([]kind.Type, n)
		args, others := make([]term.Term, n), make([]term.Term, n)
		vars, back := make([]int, n), make([]int, n)
		for i := range n {
			u := kind.Of(i, a())
			binds[i], turned[n-1-i] = u, u
			args[i], others[n-1-i] = v(i), v(i)
			vars[i], back[n-1-i] = i, i
		}
		args, others = append(args, v(n), v(n+7)), append(others, v(n), v(n+7))
		if got, e := pattern.Take(c(0, args...), binds, back...); e != api.OK || !term.Equal(got, bind(c(0, args...), binds...)) {
			t.Error(n, brief(got), e)
		}
		if got, e := pattern.Take(c(0, args...), binds, vars...); e != api.OK || !term.Equal(got, bind(c(0, others...), turned...)) {
			t.Error(n, brief(got), e)
		}
		if got, e := pattern.Take(c(0, args...), binds, vars[:n-1]...); e != api.ErrClash || !zero(got) {
			t.Error(n, brief(got), e)
		}
		if got, e := pattern.Take(c(0, args...), binds, append(vars, n-1)...); e != api.ErrArg || !zero(got) {
			t.Error(n, brief(got), e)
		}
	}
}

func TestP11_2TakeOfVeryDeepTerms(t *testing.T) {
	x := nested(levels, c(0, v(levels), v(levels+1), v(0), v(levels+2)))
	want := nested(levels, c(0, v(levels+1), v(levels), v(0), v(levels+2)))
	want.Binds = types(fn(), a(), b())
	if got, e := pattern.Take(x, types(a(), fn()), 0, 1); e != api.OK || !term.Equal(got, want) {
		t.Error(brief(got), e)
	}
	if got, e := pattern.Take(x, types(a(), fn()), 0); e != api.ErrClash || !zero(got) {
		t.Error(brief(got), e)
	}
	// What is behind an index that isn't taken out isn't looked at, nor is
	// anything where the variables are wrong.
	if got, e := pattern.Take(endless(v(1)), types(a(), b()), 1); e != api.ErrClash || !zero(got) {
		t.Error(e)
	}
	if got, e := pattern.Take(endless(c(1)), types(a()), 1); e != api.ErrArg || !zero(got) {
		t.Error(e)
	}
}

func TestP11_3Make(t *testing.T) {
	for name, k := range map[string]struct {
		meta  int
		binds []kind.Type
		vars  []int
		want  term.Term
		e     api.Errno
	}{
		"without variables":         {0, nil, nil, m(0), api.OK},
		"without, within some":      {7, types(a(), b()), nil, m(7), api.OK},
		"one":                       {1, types(a()), []int{0}, m(1, v(0)), api.OK},
		"as they stand":             {1, types(a(), b(), a()), []int{2, 0, 1}, m(1, v(2), v(0), v(1)), api.OK},
		"the outer one, a function": {1, types(fn(), a()), []int{1}, m(1, bind(v(2, v(0)), a())), api.OK},
		"the inner one, a function": {1, types(a(), fn()), []int{0}, m(1, bind(v(1, v(0)), a())), api.OK},
		"both":                      {1, types(fn(), a()), []int{0, 1}, m(1, v(0), bind(v(2, v(0)), a())), api.OK},
		"a function of functions":   {2, types(kind.Of(1, fn(), a())), []int{0}, m(2, bind(v(2, bind(v(2, v(0)), a()), v(0)), fn(), a())), api.OK},
		"the greatest number":       {math.MaxInt, types(a()), []int{0}, m(math.MaxInt, v(0)), api.OK},
		"a number below 0":          {-1, types(a()), []int{0}, term.Term{}, api.ErrArg},
		"the least number":          {math.MinInt, nil, nil, term.Term{}, api.ErrArg},
		"a variable too great":      {0, types(a()), []int{1}, term.Term{}, api.ErrArg},
		"a variable of none":        {0, nil, []int{0}, term.Term{}, api.ErrArg},
		"a variable below 0":        {0, types(a()), []int{-1}, term.Term{}, api.ErrArg},
		"the last one too great":    {0, types(a(), b()), []int{1, 0, 2}, term.Term{}, api.ErrArg},
		"two the same":              {0, types(a(), b()), []int{0, 0}, term.Term{}, api.ErrArg},
		"the greatest variable":     {0, types(a()), []int{math.MaxInt}, term.Term{}, api.ErrArg},
		"the least variable":        {0, types(a()), []int{math.MinInt}, term.Term{}, api.ErrArg},
		"all of them wrong":         {-1, nil, []int{-1, -1}, term.Term{}, api.ErrArg},
		"a base that is none":       {0, types(kind.Of(-1), kind.Of(math.MinInt, a())), []int{1, 0}, m(0, v(1), bind(v(1, v(0)), a())), api.OK},
	} {
		if got, e := pattern.Make(k.meta, k.binds, k.vars...); e != k.e || !term.Equal(got, k.want) {
			t.Errorf("%s: %v, %d", name, got, e)
		}
	}
}

// longOf: the long form of a variable as chapter 6 words it, of any index.
func longOf(i int, u kind.Type) term.Term {
	x := bind(v(i+len(u.Args)), u.Args...)
	for k, arg := range u.Args {
		x.Args = append(x.Args, longOf(len(u.Args)-1-k, arg))
	}
	return x
}

func TestP11_3MakeByAllVariables(t *testing.T) {
	binds := types(high(), a(), kind.Of(1, fn(), high()), fn())
	for n := range len(binds) + 1 {
		for _, vars := range choices(n) {
			got, e := pattern.Make(5, binds[:n], vars...)
			want := m(5)
			for _, v := range vars {
				want.Args = append(want.Args, longOf(v, binds[n-1-v]))
			}
			if e != api.OK || !term.Equal(got, want) {
				t.Fatalf("within %d, %v: %v, %d", n, vars, got, e)
			}
		}
	}
}

// Long forms are told of variables that are further out than chapter 6 tells
// them, too.
func TestP11_3MakeOfMany(t *testing.T) {
	for _, n := range []int{api.MaxItems, api.MaxItems + 1, api.MaxItems + 2, levels} {
		binds := make([]kind.Type, n)
		binds[0], binds[1] = high(), fn()
		var vars []int
		want := m(2)
		for i := range n {
			vars = append(vars, i)
			want.Args = append(want.Args, longOf(i, binds[n-1-i]))
		}
		if got, e := pattern.Make(2, binds, vars...); e != api.OK || !term.Equal(got, want) {
			t.Error(n, brief(got), e)
		}
		if got, e := pattern.Make(2, binds, append(vars, n)...); e != api.ErrArg || !zero(got) {
			t.Error(n, brief(got), e)
		}
		if got, e := pattern.Make(2, binds, append(vars, 0)...); e != api.ErrArg || !zero(got) {
			t.Error(n, brief(got), e)
		}
	}
}

func TestP11_3MakeOfNumbersOfAnySize(t *testing.T) {
	for _, meta := range odd() {
		for _, i := range odd() {
			got, e := pattern.Make(meta, types(a(), fn(), b()), i)
			if ok := meta >= 0 && i >= 0 && i < 3; ok != (e == api.OK) || !ok && (e != api.ErrArg || !zero(got)) {
				t.Errorf("%d, %d: %v, %d", meta, i, got, e)
			}
			x, e := pattern.Take(v(i), types(a(), fn(), b()), 0, 1, 2)
			want := i
			if i >= 0 && i < 3 {
				want = 2 - i
			}
			if e != api.OK || x.Head.Index != want {
				t.Errorf("Take of %d: %v, %d", i, x, e)
			}
			x, e = pattern.Take(v(i, v(meta)), types(a(), fn(), b()))
			if clash := i >= 0 && i < 3 || meta >= 0 && meta < 3; clash != (e == api.ErrClash) || clash && !zero(x) {
				t.Errorf("Take of %d and %d: %v, %d", i, meta, x, e)
			}
		}
	}
}
