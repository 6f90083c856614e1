package match_test

import (
	"slices"
	"testing"

	"filigree/api"
	"filigree/match"
	"filigree/pattern"
	"filigree/spot"
	"filigree/subst"
	"filigree/term"
)

func TestP12_3Find(t *testing.T) {
	for name, k := range map[string]struct {
		p, t term.Term
		path []int
		want subst.Subst
		e    api.Errno
	}{
		"the whole":                         {c(1, m(0)), c(1, c(2)), nil, one(0, c(2)), api.OK},
		"within":                            {c(1, m(0)), c(0, c(2), c(1, c(3))), []int{1}, one(0, c(3)), api.OK},
		"far within":                        {c(1), c(0, c(0, c(2), c(0, c(1)))), []int{0, 1, 0}, nil, api.OK},
		"the whole ahead of what is within": {c(1, m(0)), c(1, c(1, c(2))), nil, one(0, c(1, c(2))), api.OK},
		"the first argument":                {c(1, m(0)), c(0, c(1, c(2)), c(1, c(3))), []int{0}, one(0, c(2)), api.OK},
		"within the first ahead of a later": {c(1, m(0)), c(0, c(2, c(4), c(1, c(2))), c(1, c(3))), []int{0, 1}, one(0, c(2)), api.OK},
		"the body of what binds":            {c(1, m(0)), bind(c(1, v(0)), a()), nil, one(0, v(0)), api.OK},
		"the body within binders":           {c(1, m(0)), bind(c(0, bind(c(1, bind(c(2, v(0), v(1), v(2)), fn())), b())), a()), nil, nil, api.ErrNone},
		"so, where the use binds":           {c(1, bind(m(0, v(0)), fn())), bind(c(0, bind(c(1, bind(c(2, v(0), v(1), v(2)), fn())), b())), a()), []int{0}, one(0, bind(c(2, v(0), v(1), v(2)), fn())), api.OK},
		"indexes as they are":               {c(1, m(0)), c(0, bind(c(2), a()), bind(c(1, v(0)), a())), []int{1}, one(0, v(0)), api.OK},
		"loose ones as they are":            {c(1, m(0)), c(0, bind(c(1, v(7)), a())), []int{0}, one(0, v(7)), api.OK},
		"a metavariable alone":              {m(0), bind(c(1, v(0)), a()), nil, one(0, c(1, v(0))), api.OK},
		"without metavariables":             {c(1, c(2)), c(0, c(1), c(1, c(2))), []int{1}, nil, api.OK},
		"what clashed is forgotten":         {c(1, m(0), m(0)), c(0, c(1, c(2), c(3)), c(1, c(4), c(4))), []int{1}, one(0, c(4)), api.OK},
		"so, further up":                    {c(1, m(0), m(0)), c(1, c(1, c(2), c(2)), c(3)), []int{0}, one(0, c(2)), api.OK},
		"t's metavariables are as constant": {c(1, m(0)), c(0, m(1, c(2)), c(1, m(3))), []int{1}, one(0, m(3)), api.OK},
		"within a metavariable's arguments": {c(1), m(0, c(2), c(1)), []int{1}, nil, api.OK},
		"no kind of head":                   {tm(4, 1, nil), c(0, tm(4, 0, nil), tm(4, 1, nil)), []int{1}, nil, api.OK},
		"an index below 0":                  {v(-1), c(0, v(0), bind(v(-1), a())), []int{1}, nil, api.OK},
		"none":                              {c(9), c(0, c(1), v(9), m(9)), nil, nil, api.ErrNone},
		"none, of the zero term":            {c(9), term.Term{}, nil, nil, api.ErrNone},
		"none, since it isn't so twice":     {c(1, m(0), m(0)), c(0, c(1, c(2), c(3))), nil, nil, api.ErrNone},
		"none, by a bound variable":         {c(1, bind(m(0), a())), c(0, c(1, bind(v(0), a()))), nil, nil, api.ErrNone},
		"a loose index":                     {v(0), v(0), nil, nil, api.ErrArg},
		"a loose index, within":             {c(1, bind(v(1), a())), c(1, bind(v(1), a())), nil, nil, api.ErrArg},
		"the zero term":                     {term.Term{}, term.Term{}, nil, nil, api.ErrArg},
		"it binds":                          {bind(c(1), a()), bind(c(1), a()), nil, nil, api.ErrArg},
		"it binds, and the term has it":     {bind(c(1, v(0)), a()), c(0, bind(c(1, v(0)), a())), nil, nil, api.ErrArg},
		"it binds, and is no pattern":       {bind(m(0, c(1)), a()), c(1), nil, nil, api.ErrArg},
		"it binds, has a loose index":       {bind(c(1, v(1)), a()), c(1), nil, nil, api.ErrArg},
		"a loose index, and is no pattern":  {c(0, v(0), m(0, c(1))), c(1), nil, nil, api.ErrArg},
		"no pattern":                        {m(0, c(1)), c(1), nil, nil, api.ErrPattern},
		"no pattern, and none":              {c(9, m(0, m(1))), c(1), nil, nil, api.ErrPattern},
	} {
		path, s, e := match.Find(k.p, k.t)
		if e != k.e || !slices.Equal(path, k.path) || !subst.Equal(s, k.want) || e != api.OK && (path != nil || !none(s)) {
			t.Errorf("%s: %v, %v, %d", name, path, s, e)
		}
	}
}

// tried: what Find tells, as the chapter words it: all paths are tried.
func tried(p, t term.Term) ([]int, subst.Subst, api.Errno) {
	if term.Loose(p) > 0 || len(p.Binds) > 0 {
		return nil, nil, api.ErrArg
	}
	if !pattern.Is(p) {
		return nil, nil, api.ErrPattern
	}
	for _, path := range spot.All(t) {
		x, _, e := spot.At(t, path...)
		if e != api.OK {
			panic(e)
		}
		if s, e := match.Match(p, term.Body(x)); e == api.OK {
			return path, s, e
		}
	}
	return nil, nil, api.ErrNone
}

func TestP12_3FindOfSmallTerms(t *testing.T) {
	met := map[api.Errno]int{}
	within := 0
	patterns := append(some(upTo(3), 300), those(upTo(2), func(x term.Term) bool { return len(x.Binds) == 0 })...)
	patterns = append(patterns, c(0, m(0), m(0)), c(0, m(1), m(0)), c(0, bind(m(0, v(0)), a())), c(0, bind(m(0), a())), m(0, m(0)))
	for i, x := range append(some(upTo(3), 900), some(ofSize(3), 400)...) {
		// Where it is within, with some binders around it, too.
		y := bind(c(2, v(0), bind(v(i%3, x), a()), x), fn())
		for _, p := range patterns {
			path, s, e := match.Find(p, y)
			want, by, is := tried(p, y)
			if e != is || !slices.Equal(path, want) || !subst.Equal(s, by) {
				t.Fatalf("%v in %v: %v, %v, %d; want %v, %v, %d", p, y, path, s, e, want, by, is)
			}
			met[e]++
			within += len(path)
		}
	}
	for _, e := range []api.Errno{api.OK, api.ErrArg, api.ErrPattern, api.ErrNone} {
		if met[e] < 1000 {
			t.Errorf("error %d was met %d times", e, met[e])
		}
	}
	if within < 2000 {
		t.Error("too few are within:", within)
	}
}

// A term at and above the limits of what is right is looked through, too.
func TestP12_3FindInVeryDeepTerms(t *testing.T) {
	for _, depth := range []int{api.MaxNest - 1, api.MaxNest, levels} {
		x := nested(depth, bind(c(5, v(0), v(depth)), a()))
		path, s, e := match.Find(c(5, m(2), m(0)), x)
		if e != api.OK || !slices.Equal(path, make([]int, depth)) || !subst.Equal(s, subst.Subst{{Meta: 0, Term: v(depth)}, {Meta: 2, Term: v(0)}}) {
			t.Error(depth, brief(path), brief(s), e)
		}
		if path, s, e := match.Find(c(5, m(0), m(0)), x); e != api.ErrNone || path != nil || !none(s) {
			t.Error(depth, brief(path), brief(s), e)
		}
	}
	n := api.MaxNodes + 5
	x := c(0, append(slices.Repeat([]term.Term{c(1, c(2))}, n), c(3, c(4)))...)
	if path, s, e := match.Find(c(3, m(0)), x); e != api.OK || !slices.Equal(path, []int{n}) || !subst.Equal(s, one(0, c(4))) {
		t.Error(brief(path), brief(s), e)
	}
}

// Nothing is looked at behind the first place.
func TestP12_3FindEndsAtTheFirst(t *testing.T) {
	x := bind(c(3, c(1, c(2)), endless(c(0))), a())
	if path, s, e := match.Find(c(1, m(0)), x); e != api.OK || !slices.Equal(path, []int{0}) || !subst.Equal(s, one(0, c(2))) {
		t.Error(path, brief(s), e)
	}
	x = c(3, c(0), c(1, c(2)), doubled(80))
	if path, s, e := match.Find(c(1, m(0)), x); e != api.OK || !slices.Equal(path, []int{1}) || !subst.Equal(s, one(0, c(2))) {
		t.Error(path, brief(s), e)
	}
}
