package match_test

import (
	"math"
	"slices"
	"testing"

	"filigree/api"
	"filigree/kind"
	"filigree/match"
	"filigree/pattern"
	"filigree/spot"
	"filigree/subst"
	"filigree/term"
)

func TestExample(t *testing.T) {
	// \x. f (F x) x matches \x. f (g x x) x by F: \x. g x x.
	p := bind(c(0, m(0, v(0)), v(0)), a())
	x := bind(c(0, c(1, v(0), v(0)), v(0)), a())
	if s, e := match.Match(p, x); e != api.OK || !subst.Equal(s, one(0, bind(c(1, v(0), v(0)), a()))) {
		t.Error(s, e)
	}
	// F z and s z: no pattern.
	if s, e := match.Match(m(0, c(0)), c(1, c(0))); e != api.ErrPattern || !none(s) {
		t.Error(s, e)
	}
	// f X X and f a b: ErrClash.
	if s, e := match.Match(c(0, m(0), m(0)), c(0, c(1), c(2))); e != api.ErrClash || !none(s) {
		t.Error(s, e)
	}
}

func TestP12_1Match(t *testing.T) {
	for name, k := range map[string]struct {
		p, t term.Term
		want subst.Subst
		e    api.Errno
	}{
		"the same constant":                      {c(0), c(0), nil, api.OK},
		"without metavariables":                  {bind(c(0, v(0), bind(c(1), b())), a()), bind(c(0, v(0), bind(c(1), b())), a()), nil, api.OK},
		"another constant":                       {c(0), c(1), nil, api.ErrClash},
		"another constant, within":               {c(0, c(1)), c(0, c(2)), nil, api.ErrClash},
		"a variable of that number":              {c(0), v(0), nil, api.ErrClash},
		"a metavariable of that number":          {c(0), m(0), nil, api.ErrClash},
		"a variable":                             {bind(v(1), a(), a()), bind(v(1), a(), a()), nil, api.OK},
		"another variable":                       {bind(v(1), a(), a()), bind(v(0), a(), a()), nil, api.ErrClash},
		"a constant for a variable":              {bind(v(0), a()), bind(c(0), a()), nil, api.ErrClash},
		"a loose variable for one":               {bind(v(0), a()), bind(v(1), a()), nil, api.ErrClash},
		"an argument more":                       {c(0, c(1)), c(0, c(1), c(1)), nil, api.ErrClash},
		"an argument less":                       {c(0, c(1), c(1)), c(0, c(1)), nil, api.ErrClash},
		"the last argument":                      {c(0, m(0), m(1), c(1)), c(0, c(1), c(1), c(2)), nil, api.ErrClash},
		"the first argument":                     {c(0, c(1), m(0), m(1)), c(0, c(2), c(1), c(1)), nil, api.ErrClash},
		"arguments in another order":             {c(0, c(1), c(2)), c(0, c(2), c(1)), nil, api.ErrClash},
		"a binder more":                          {bind(c(0), a()), bind(c(0), a(), a()), nil, api.ErrClash},
		"a binder less":                          {bind(c(0), a(), a()), bind(c(0), a()), nil, api.ErrClash},
		"a binder of another type":               {bind(c(0), a()), bind(c(0), b()), nil, api.ErrClash},
		"of another type, within":                {c(0, bind(c(0), fn(), a())), c(0, bind(c(0), fn(), b())), nil, api.ErrClash},
		"of another type, deep within it":        {bind(c(0), high()), bind(c(0), kind.Of(0, kind.Of(0, fn(), b()), b())), nil, api.ErrClash},
		"the same type in other memory":          {bind(c(0), high()), bind(c(0), high()), nil, api.OK},
		"no kind of head":                        {tm(7, 3, nil), tm(7, 3, nil), nil, api.OK},
		"another that is none":                   {tm(7, 3, nil), tm(8, 3, nil), nil, api.ErrClash},
		"none, of another number":                {tm(-1, 3, nil), tm(-1, 4, nil), nil, api.ErrClash},
		"an index below 0":                       {v(-1), v(-1), nil, api.OK},
		"another one below 0":                    {v(-1), v(-2), nil, api.ErrClash},
		"a constant's number of any size":        {c(math.MinInt), c(math.MinInt), nil, api.OK},
		"another number of any size":             {c(math.MaxInt), c(math.MinInt), nil, api.ErrClash},
		"a metavariable for a constant":          {m(0), c(3), one(0, c(3)), api.OK},
		"its number":                             {m(7), c(3), one(7, c(3)), api.OK},
		"a number below 0":                       {m(-7), c(3), one(-7, c(3)), api.OK},
		"for all of it":                          {m(0), c(3, bind(c(1, v(0)), b())), one(0, c(3, bind(c(1, v(0)), b()))), api.OK},
		"for no kind of head":                    {m(0), tm(9, 3, []term.Term{v(-3)}), one(0, tm(9, 3, []term.Term{v(-3)})), api.OK},
		"for a metavariable":                     {m(0), m(4), one(0, m(4)), api.OK},
		"for itself":                             {m(0), m(0), one(0, m(0)), api.OK},
		"for what has it within":                 {m(0), c(1, m(0)), one(0, c(1, m(0))), api.OK},
		"two for each other":                     {c(0, m(0), m(1)), c(0, m(1), m(0)), list(m(1), m(0)), api.OK},
		"for what is no pattern":                 {m(0), m(1, c(2)), one(0, m(1, c(2))), api.OK},
		"t's metavariable is as a constant":      {c(0, m(1)), m(0), nil, api.ErrClash},
		"so, where p has it, too":                {c(0, m(0)), c(0, m(0), m(0)), nil, api.ErrClash},
		"so, within":                             {c(0, c(1)), c(0, m(1)), nil, api.ErrClash},
		"the zero term":                          {m(0), term.Term{}, one(0, v(0)), api.OK},
		"a loose variable":                       {m(0), v(5), one(0, v(5)), api.OK},
		"the first one that is loose":            {bind(m(0), a()), bind(v(1), a()), one(0, v(0)), api.OK},
		"loose ones within binders":              {bind(m(0), a()), bind(c(0, v(3), bind(v(3, v(0)), b())), a()), one(0, c(0, v(2), bind(v(2, v(0)), b()))), api.OK},
		"a loose one of any size":                {bind(m(0), a()), bind(v(math.MaxInt), a()), one(0, v(math.MaxInt-1)), api.OK},
		"one below 0":                            {bind(m(0), a()), bind(v(-1), a()), one(0, v(-1)), api.OK},
		"a bound one that isn't a variable":      {bind(m(0), a()), bind(v(0), a()), nil, api.ErrClash},
		"a bound one deep within":                {bind(m(0, v(0)), a(), a()), bind(c(0, v(0), bind(v(2), b())), a(), a()), nil, api.ErrClash},
		"so, of a binder further out":            {bind(c(0, bind(m(0, v(0)), b())), a()), bind(c(0, bind(v(1), b())), a()), nil, api.ErrClash},
		"its variable":                           {bind(m(0, v(0)), a()), bind(v(0), a()), one(0, bind(v(0), a())), api.OK},
		"its variable further out":               {bind(m(0, v(1)), a(), b()), bind(v(1), a(), b()), one(0, bind(v(0), a())), api.OK},
		"its variable, not used":                 {bind(m(0, v(0)), fn()), bind(c(1), fn()), one(0, bind(c(1), fn())), api.OK},
		"its variable and a loose one":           {bind(m(0, v(0)), fn(), b()), bind(c(0, v(0), v(2)), fn(), b()), one(0, bind(c(0, v(0), v(1)), b())), api.OK},
		"two, in order":                          {bind(m(0, v(1), v(0)), a(), b()), bind(c(0, v(1), v(0)), a(), b()), one(0, bind(c(0, v(1), v(0)), a(), b())), api.OK},
		"two, out of order":                      {bind(m(0, v(0), v(1)), a(), b()), bind(c(0, v(1), v(0)), a(), b()), one(0, bind(c(0, v(0), v(1)), b(), a())), api.OK},
		"of a function's type":                   {bind(m(0, long(0, a())), fn()), bind(v(0, c(1)), fn()), one(0, bind(v(0, c(1)), fn())), api.OK},
		"of binders on the way":                  {bind(c(0, bind(m(0, v(1)), b())), a()), bind(c(0, bind(c(1, v(1), v(2)), b())), a()), one(0, bind(c(1, v(0), v(1)), a())), api.OK},
		"binders at its place":                   {c(0, bind(m(0), a())), c(0, bind(c(1), a())), one(0, c(1)), api.OK},
		"more at its place":                      {c(0, m(0)), c(0, bind(c(1), a())), nil, api.ErrClash},
		"fewer at its place":                     {c(0, bind(m(0, v(0)), a())), c(0, c(1)), nil, api.ErrClash},
		"others at its place":                    {c(0, bind(m(0), a())), c(0, bind(c(1), b())), nil, api.ErrClash},
		"more where it is the whole":             {m(0), bind(c(1), a()), nil, api.ErrClash},
		"twice":                                  {c(0, m(0), m(0)), c(0, c(1), c(1)), one(0, c(1)), api.OK},
		"twice, not the same":                    {c(0, m(0), m(0)), c(0, c(1), c(2)), nil, api.ErrClash},
		"three times, the last isn't":            {c(0, m(0), m(0), m(0)), c(0, c(1), c(1), c(2)), nil, api.ErrClash},
		"three times, the second isn't":          {c(0, m(0), m(0), m(0)), c(0, c(1), c(2), c(1)), nil, api.ErrClash},
		"twice, of binders' types":               {c(0, m(0), m(0)), c(0, c(1, bind(c(2), a())), c(1, bind(c(2), b()))), nil, api.ErrClash},
		"twice, with loose ones":                 {c(0, m(0), bind(m(0), a())), c(0, v(5), bind(v(6), a())), one(0, v(5)), api.OK},
		"twice, with one loose number":           {c(0, m(0), bind(m(0), a())), c(0, v(5), bind(v(5), a())), nil, api.ErrClash},
		"twice, by other variables":              {bind(c(0, m(0, v(0)), m(0, v(1))), a(), a()), bind(c(0, c(1, v(0)), c(1, v(1))), a(), a()), one(0, bind(c(1, v(0)), a())), api.OK},
		"twice, by other variables, not so":      {bind(c(0, m(0, v(0)), m(0, v(1))), a(), a()), bind(c(0, c(1, v(0)), c(1, v(0))), a(), a()), nil, api.ErrClash},
		"twice, by variables of two types":       {c(0, bind(m(0, v(0)), a()), bind(m(0, v(0)), b())), c(0, bind(c(1), a()), bind(c(1), b())), nil, api.ErrClash},
		"twice, by one variable and by none":     {bind(c(0, m(0, v(0)), m(0)), a()), bind(c(0, c(1), c(1)), a()), nil, api.ErrClash},
		"many, by their numbers":                 {c(0, m(9), m(-2), c(1, m(4))), c(0, c(3), c(4), c(1, c(5))), subst.Subst{{Meta: -2, Term: c(4)}, {Meta: 4, Term: c(5)}, {Meta: 9, Term: c(3)}}, api.OK},
		"a loose index":                          {v(0), v(0), nil, api.ErrArg},
		"the zero term for a pattern":            {term.Term{}, term.Term{}, nil, api.ErrArg},
		"a loose index, within":                  {bind(c(0, m(1), v(1)), a()), bind(c(0, m(1), v(1)), a()), nil, api.ErrArg},
		"a loose index, and it doesn't match":    {c(0, v(3)), c(1), nil, api.ErrArg},
		"a loose index of a use":                 {m(0, v(0)), c(0), nil, api.ErrArg},
		"a loose index of any size":              {bind(c(0, v(math.MaxInt)), a()), c(0), nil, api.ErrArg},
		"no pattern":                             {m(0, c(0)), c(0), nil, api.ErrPattern},
		"no pattern, and it doesn't match":       {c(0, c(1), m(0, c(0))), c(0, c(2), c(2)), nil, api.ErrPattern},
		"no pattern: a variable twice":           {bind(m(0, v(0), v(0)), a()), bind(c(0), a()), nil, api.ErrPattern},
		"no pattern: a metavariable within one":  {m(0, m(1)), m(0, m(1)), nil, api.ErrPattern},
		"no pattern: a constant's long form":     {m(0, bind(c(0, v(0)), a())), c(0), nil, api.ErrPattern},
		"no pattern, and a loose index":          {c(0, m(0, c(0)), v(0)), c(0), nil, api.ErrArg},
		"no pattern, and a loose index within":   {m(0, c(0, v(0))), c(0), nil, api.ErrArg},
		"what is no pattern of itself":           {bind(m(0, v(0), v(0)), a()), bind(m(0, v(0), v(0)), a()), nil, api.ErrPattern},
		"t needn't be one":                       {c(0, m(0)), c(0, m(0, c(0))), one(0, m(0, c(0))), api.OK},
		"a part alone":                           {c(1, m(0)), c(0, c(1, c(2))), nil, api.ErrClash},
		"a function's argument at its long form": {bind(c(0, long(0, a())), fn()), bind(c(0, long(0, a())), fn()), nil, api.OK},
	} {
		got, e := match.Match(k.p, k.t)
		if e != k.e || !subst.Equal(got, k.want) || e != api.OK && !none(got) {
			t.Errorf("%s: %v, %d", name, got, e)
		}
		if got := match.Is(k.p, k.t); got != (k.e == api.OK) {
			t.Errorf("%s: Is: %t", name, got)
		}
		if got, e := match.All(pair(k.p, k.t)); e != k.e || !subst.Equal(got, k.want) {
			t.Errorf("%s: All: %v, %d", name, got, e)
		}
	}
}

func TestP12_1MatchOfMixed(t *testing.T) {
	x := bind(c(0,
		bind(c(5, v(0, v(2)), v(2, v(1))), high()),
		c(1, c(8, v(4)), v(1)),
		bind(c(6, v(0, c(1)), v(1), v(5)), kind.Of(0, high(), fn())),
	), fn(), a())
	if got, e := match.Match(mixed(), x); e != api.ErrClash || !none(got) {
		t.Error("by a variable that isn't the use's:", got, e)
	}
	x.Args[0] = bind(c(5, v(0, v(2)), v(2, c(7))), high())
	got, e := match.Match(mixed(), x)
	want := subst.Subst{
		{Meta: 2, Term: c(8, v(2))},
		{Meta: 3, Term: bind(c(5, v(1, v(0)), v(0, c(7))), high(), fn())},
		{Meta: 4, Term: bind(c(6, v(1, c(1)), v(0), v(4)), kind.Of(0, high(), fn()), a())},
	}
	if e != api.OK || !subst.Equal(got, want) {
		t.Error(got, e)
	}
}

// A term at and above the limits of what is right is matched, too.
func TestP12_1OfVeryDeepTerms(t *testing.T) {
	for _, depth := range []int{api.MaxNest - 1, api.MaxNest, api.MaxItems + 5, levels} {
		p := nested(depth, m(4, v(0), v(depth-1)))
		s, e := match.Match(p, nested(depth, c(0, v(depth-1), v(0), v(depth+2))))
		if e != api.OK || !subst.Equal(s, one(4, bind(c(0, v(0), v(1), v(4)), b(), b()))) {
			t.Error(depth, brief(s), e)
		}
		if s, e := match.Match(p, nested(depth, c(0, v(1)))); e != api.ErrClash || !none(s) {
			t.Error(depth, brief(s), e)
		}
		if s, e := match.Match(nested(depth, m(4, v(0), v(depth))), c(0)); e != api.ErrArg || !none(s) {
			t.Error(depth, brief(s), e)
		}
		x := nested(depth, c(3))
		if s, e := match.Match(m(1), term.Body(x)); e != api.OK || !subst.Equal(s, one(1, term.Body(x))) {
			t.Error(depth, brief(s), e)
		}
	}
}

func TestP12_1OfVeryManyArguments(t *testing.T) {
	n := api.MaxNodes + 5
	var args, others []term.Term
	var want subst.Subst
	for i := range n {
		args = append(args, m(n-1-i))
		others = append(others, c(i))
		want = append(want, subst.Pair{Meta: i, Term: c(n - 1 - i)})
	}
	if s, e := match.Match(c(0, args...), c(0, others...)); e != api.OK || !subst.Equal(s, want) {
		t.Error(brief(s), e)
	}
	if s, e := match.Match(c(0, slices.Repeat(args[:1], n)...), c(0, others...)); e != api.ErrClash || !none(s) {
		t.Error(brief(s), e)
	}
}

// What is very deep isn't copied again and again where it clashes behind.
func TestP12_1NothingIsCopiedOfWhatClashes(t *testing.T) {
	if s, e := match.Match(c(2, m(0), c(1)), endless(c(0))); e != api.ErrClash || !none(s) {
		t.Error(brief(s), e)
	}
	if s, e := match.Match(bind(c(2, m(0), c(1)), fn()), bind(c(2, doubled(80), c(0)), fn())); e != api.ErrClash || !none(s) {
		t.Error(brief(s), e)
	}
	x := c(1)
	for range levels {
		x = c(0, x, c(2))
	}
	if path, s, e := match.Find(c(0, m(0), c(3)), x); e != api.ErrNone || path != nil || !none(s) {
		t.Error(brief(path), brief(s), e)
	}
}

// fillers: what may stand at a place.
func fillers() []term.Term {
	return []term.Term{v(0), v(1), v(2), v(4), c(0), m(0), c(0, v(0)), c(0, bind(v(1, v(2)), fn())), v(0, v(1)), m(1, v(1), c(0))}
}

// filled: p with any of these at the places of its uses.
func filled(p term.Term) []term.Term {
	l, e := pattern.Uses(p)
	if e != api.OK {
		panic(e)
	}
	all := []term.Term{p}
	for _, u := range l {
		var more []term.Term
		for _, t := range all {
			for _, x := range fillers() {
				made, e := spot.Replace(t, x, u.Path...)
				if e != api.OK {
					panic(e)
				}
				more = append(more, made)
			}
		}
		all = more
	}
	return all
}

// wanted: the error, and what Match tells of these, by names.
func wanted(p, t term.Term) (told, api.Errno) {
	f := told{}
	if term.Loose(p) > 0 {
		return nil, api.ErrArg
	}
	if !pattern.Is(p) {
		return nil, api.ErrPattern
	}
	if !slices.EqualFunc(p.Binds, t.Binds, kind.Equal) || !f.meets(p, t, "", names(p, "")) {
		return nil, api.ErrClash
	}
	return f, api.OK
}

// agrees: whether a substitution is what is told of its metavariables.
func agrees(s subst.Subst, f told) bool {
	for _, x := range s {
		if f[x.Meta] != textOf(x.Term) {
			return false
		}
	}
	return len(s) == len(f) && subst.Right(s)
}

// hold holds Match against the chapter's words.
func hold(t *testing.T, p, x term.Term) api.Errno {
	want, e := wanted(p, x)
	got, is := match.Match(p, x)
	if is != e || !agrees(got, want) || match.Is(p, x) != (e == api.OK) {
		t.Fatalf("%v, %v: %v, %d; want %v, %d", p, x, got, is, want, e)
	}
	return e
}

func TestP12_1MatchOfSmallTerms(t *testing.T) {
	met := map[api.Errno]int{}
	all := upTo(3)
	for _, p := range some(all, 700) {
		for _, x := range some(all, 500) {
			met[hold(t, p, x)]++
		}
		met[hold(t, p, p)]++
	}
	for _, e := range []api.Errno{api.OK, api.ErrArg, api.ErrPattern, api.ErrClash} {
		if met[e] < 300 {
			t.Errorf("error %d was met %d times", e, met[e])
		}
	}
}

// patterns: small terms that are patterns and have no loose index.
func patterns() []term.Term {
	return append(those(upTo(3), func(x term.Term) bool { return term.Loose(x) == 0 && pattern.Is(x) }), mixed(),
		bind(c(0, m(0, v(0), v(1)), m(0, v(1), v(0))), a(), a()),
		bind(c(0, m(0, v(0)), bind(c(1, m(0, v(2)), m(1, v(0), v(1))), b())), a(), a()),
		c(0, m(0), bind(m(0), a()), bind(m(1), fn())),
		bind(c(1, bind(m(0, long(2, a()), v(0)), b()), bind(m(0, long(3, a()), v(1)), b(), fn())), fn(), a()),
	)
}

func TestP12_1MatchOfFilledPatterns(t *testing.T) {
	met := map[api.Errno]int{}
	for _, p := range patterns() {
		for _, x := range filled(p) {
			met[hold(t, p, x)]++
		}
	}
	if met[api.OK] < 5000 || met[api.ErrClash] < 10000 || len(met) != 2 {
		t.Error(met)
	}
}

func TestP12_1All(t *testing.T) {
	loose, no := c(0, v(0)), m(0, c(0))
	for name, k := range map[string]struct {
		l    []match.Pair
		want subst.Subst
		e    api.Errno
	}{
		"none":                            {nil, nil, api.OK},
		"an empty list":                   {[]match.Pair{}, nil, api.OK},
		"one":                             {[]match.Pair{pair(m(1), c(0))}, one(1, c(0)), api.OK},
		"two":                             {[]match.Pair{pair(m(1), c(0)), pair(m(0), c(2))}, list(c(2), c(0)), api.OK},
		"two of one":                      {[]match.Pair{pair(m(0), c(0)), pair(m(0), c(0))}, one(0, c(0)), api.OK},
		"two of one, not the same":        {[]match.Pair{pair(m(0), c(0)), pair(m(0), c(1))}, nil, api.ErrClash},
		"two of one, one further":         {[]match.Pair{pair(m(0), c(0)), pair(m(1), c(1)), pair(c(3, m(0)), c(3, c(1)))}, nil, api.ErrClash},
		"without metavariables":           {[]match.Pair{pair(c(0), c(0)), pair(c(1), c(1))}, nil, api.OK},
		"some without":                    {[]match.Pair{pair(c(0), c(0)), pair(m(3), c(1)), pair(c(1), c(1))}, one(3, c(1)), api.OK},
		"the first one clashes":           {[]match.Pair{pair(c(0), c(1)), pair(m(3), c(1))}, nil, api.ErrClash},
		"the last one clashes":            {[]match.Pair{pair(m(3), c(1)), pair(c(0), c(1))}, nil, api.ErrClash},
		"binders of each its own":         {[]match.Pair{pair(bind(m(0, v(0)), a()), bind(v(0), a())), pair(bind(m(1, v(0)), b()), bind(v(1), b()))}, list(bind(v(0), a()), bind(v(1), b())), api.OK},
		"one by binders of two":           {[]match.Pair{pair(bind(m(0, v(1)), a(), b()), bind(v(1), a(), b())), pair(bind(m(0, v(0)), a()), bind(v(0), a()))}, one(0, bind(v(0), a())), api.OK},
		"one by binders of two types":     {[]match.Pair{pair(bind(m(0, v(0)), a()), bind(c(0), a())), pair(bind(m(0, v(0)), b()), bind(c(0), b()))}, nil, api.ErrClash},
		"loose ones of two":               {[]match.Pair{pair(m(0), v(1)), pair(bind(m(0), fn()), bind(v(2), fn()))}, one(0, v(1)), api.OK},
		"a term that is the next pattern": {[]match.Pair{pair(m(0), m(1)), pair(m(1), m(0))}, list(m(1), m(0)), api.OK},
		"by numbers, not by pairs":        {[]match.Pair{pair(m(5), c(0)), pair(m(-5), c(1)), pair(m(2), c(2))}, subst.Subst{{Meta: -5, Term: c(1)}, {Meta: 2, Term: c(2)}, {Meta: 5, Term: c(0)}}, api.OK},
		"a loose index":                   {[]match.Pair{pair(loose, loose)}, nil, api.ErrArg},
		"a loose index behind":            {[]match.Pair{pair(m(0), c(0)), pair(loose, loose)}, nil, api.ErrArg},
		"no pattern":                      {[]match.Pair{pair(no, c(0))}, nil, api.ErrPattern},
		"no pattern behind":               {[]match.Pair{pair(m(0), c(0)), pair(m(1), c(0)), pair(no, c(0))}, nil, api.ErrPattern},
		"no pattern, then a loose index":  {[]match.Pair{pair(no, c(0)), pair(loose, c(0))}, nil, api.ErrPattern},
		"a loose index, then no pattern":  {[]match.Pair{pair(loose, c(0)), pair(no, c(0))}, nil, api.ErrArg},
		"a clash, then a loose index":     {[]match.Pair{pair(c(0), c(1)), pair(loose, c(0))}, nil, api.ErrArg},
		"a clash, then no pattern":        {[]match.Pair{pair(c(0), c(1)), pair(no, c(0))}, nil, api.ErrPattern},
		"two that clash, then no pattern": {[]match.Pair{pair(m(0), c(0)), pair(m(0), c(1)), pair(no, c(0))}, nil, api.ErrPattern},
		"terms of any kind":               {[]match.Pair{pair(m(0), no), pair(m(1), loose)}, list(no, loose), api.OK},
		"the zero pair":                   {[]match.Pair{{}}, nil, api.ErrArg},
	} {
		if got, e := match.All(k.l...); e != k.e || !subst.Equal(got, k.want) || e != api.OK && !none(got) {
			t.Errorf("%s: %v, %d", name, got, e)
		}
	}
}

// Pairs match by one substitution as the arguments of one head would.
func TestP12_1AllIsAsOneTerm(t *testing.T) {
	met := map[api.Errno]int{}
	l := append(some(patterns(), 150), some(those(patterns(), pattern.Flex), 40)...)
	for _, p := range l {
		for _, q := range l {
			ys := filled(q)
			for n, x := range some(filled(p), 3) {
				y := ys[n%len(ys)]
				want, e := match.Match(c(9, p, q), c(9, x, y))
				got, is := match.All(pair(p, x), pair(q, y))
				if is != e || !subst.Equal(got, want) {
					t.Fatalf("%v, %v and %v, %v: %v, %d; want %v, %d", p, x, q, y, got, is, want, e)
				}
				met[e]++
			}
		}
	}
	if met[api.OK] < 5000 || met[api.ErrClash] < 5000 {
		t.Error(met)
	}
}

func TestP12_1AllOfMany(t *testing.T) {
	var l []match.Pair
	var want subst.Subst
	for i := range api.MaxItems + 500 {
		l = append(l, pair(bind(m(i), a()), bind(c(i), a())))
		want = append(want, subst.Pair{Meta: i, Term: c(i)})
	}
	if got, e := match.All(l...); e != api.OK || !subst.Equal(got, want) {
		t.Error(brief(got), e)
	}
	l = append(l, pair(m(3), c(4)))
	if got, e := match.All(l...); e != api.ErrClash || !none(got) {
		t.Error(brief(got), e)
	}
}

func TestP12_2VariantAndLess(t *testing.T) {
	two := bind(m(0, v(1), v(0)), a(), a())
	for name, k := range map[string]struct {
		a, b                term.Term
		variant, less, more bool
	}{
		"the same constant":                    {c(0), c(0), true, false, false},
		"another one":                          {c(0), c(1), false, false, false},
		"another metavariable":                 {m(0), m(5), true, false, false},
		"two others":                           {c(0, m(0), m(1)), c(0, m(5), m(2)), true, false, false},
		"each other":                           {c(0, m(0), m(1)), c(0, m(1), m(0)), true, false, false},
		"a metavariable and a constant":        {m(0), c(0), false, true, false},
		"two and one twice":                    {c(0, m(0), m(1)), c(0, m(0), m(0)), false, true, false},
		"one twice":                            {c(0, m(0), m(0)), c(0, m(3), m(3)), true, false, false},
		"each above the other somewhere":       {c(0, m(0), c(1)), c(0, c(1), m(0)), false, false, false},
		"itself, within":                       {m(0), c(0, m(0)), false, true, false},
		"with variables":                       {two, bind(m(7, v(1), v(0)), a(), a()), true, false, false},
		"the other way round":                  {two, bind(m(7, v(0), v(1)), a(), a()), false, false, false},
		"with fewer variables":                 {two, bind(m(7, v(1)), a(), a()), false, true, false},
		"a variable":                           {two, bind(v(1), a(), a()), false, true, false},
		"other binders":                        {bind(m(0), a()), bind(m(0), b()), false, false, false},
		"a function's variable":                {bind(m(0, long(0, a())), fn()), bind(m(1, long(0, a())), fn()), true, false, false},
		"applied to nothing and to a variable": {bind(m(0), a()), bind(m(0, v(0)), a()), false, false, true},
		"a loose variable":                     {m(0), v(0), false, true, false},
		"loose ones":                           {v(0), v(0), false, false, false},
		"no pattern":                           {m(0, c(0)), m(0, c(0)), false, false, false},
		"the one matches what is no pattern":   {m(0), m(0, c(0)), false, true, false},
		"a loose index in the other one":       {c(0, m(0)), c(0, v(0)), false, true, false},
		"what is no kind":                      {tm(5, 1, []term.Term{m(0)}), tm(5, 1, []term.Term{m(1)}), true, false, false},
		"numbers below 0":                      {c(0, m(-1), m(-2)), c(0, m(-2), m(4)), true, false, false},
		"for no kind":                          {m(0), tm(5, 1, nil), false, true, false},
		"constants' long forms":                {bind(m(0, v(0)), a()), bind(c(0, v(0)), a()), false, true, false},
		"mixed":                                {mixed(), mixed(), true, false, false},
		"a variable that isn't in long form":   {bind(m(0, v(0)), fn()), bind(m(0, v(0)), fn()), false, false, false},
	} {
		if got := match.Variant(k.a, k.b); got != k.variant {
			t.Errorf("%s: Variant: %t", name, got)
		}
		if got := match.Variant(k.b, k.a); got != k.variant {
			t.Errorf("%s: Variant, the other way round: %t", name, got)
		}
		if got := match.Less(k.a, k.b); got != k.less {
			t.Errorf("%s: Less: %t", name, got)
		}
		if got := match.Less(k.b, k.a); got != k.more {
			t.Errorf("%s: Less, the other way round: %t", name, got)
		}
	}
}

// renamed: whether p matches t by long forms of metavariables, no two of the
// same, as the chapter words it: each is held against those of all numbers.
func renamed(p, t term.Term) bool {
	s, e := match.Match(p, t)
	if e != api.OK {
		return false
	}
	var met []int
	for _, x := range s {
		for i := range 8 {
			if term.Equal(x.Term, term.Eta(term.Head{Kind: term.Meta, Index: i}, kind.Of(0, x.Term.Binds...))) {
				met = append(met, i)
			}
		}
	}
	return len(met) == len(s) && len(slices.Compact(slices.Sorted(slices.Values(met)))) == len(s)
}

func TestP12_2VariantAndLessOfSmallTerms(t *testing.T) {
	variants, others, less := 0, 0, 0
	all := append(some(upTo(3), 600), patterns()...)
	for i, x := range all {
		for k := i % 7; k < len(all); k += 7 {
			y := all[k]
			variant := renamed(x, y) && renamed(y, x)
			above := match.Is(x, y) && !match.Is(y, x)
			if match.Variant(x, y) != variant || match.Less(x, y) != above {
				t.Fatalf("%v, %v: %t, %t", x, y, variant, above)
			}
			if variant {
				variants++
			} else if match.Is(x, y) && match.Is(y, x) {
				others++
			}
			if above {
				less++
			}
		}
	}
	if variants < 100 || others < 3 || less < 1000 {
		t.Error("too few:", variants, others, less)
	}
}
