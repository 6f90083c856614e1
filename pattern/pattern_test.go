package pattern_test

import (
	"math"
	"slices"
	"testing"

	"filigree/api"
	"filigree/kind"
	"filigree/pattern"
	"filigree/spot"
	"filigree/term"
)

func TestExample(t *testing.T) {
	x := bind(m(0, v(0), v(1)), a(), a()) // \x. \y. F y x
	l, e := pattern.Uses(x)
	if e != api.OK || len(l) != 1 || l[0].Meta != 0 || !slices.Equal(l[0].Vars, []int{0, 1}) || !sameTypes(l[0].Binds, x.Binds) || len(l[0].Path) != 0 {
		t.Error(l, e)
	}
	if vars, e := pattern.Vars(x, 2); e != api.OK || !slices.Equal(vars, []int{0, 1}) || !pattern.Is(x) || !pattern.Linear(x) || !pattern.Flex(x) {
		t.Error(vars, e)
	}
	for name, x := range map[string]term.Term{
		"F x x":   bind(m(0, v(0), v(0)), a()),
		"F (f x)": bind(m(0, c(0, v(0))), a()),
		"F G":     bind(m(0, m(1)), a()),
	} {
		if l, e := pattern.Uses(x); e != api.ErrPattern || l != nil || pattern.Is(x) || pattern.Linear(x) || !pattern.Flex(x) {
			t.Error(name, l, e)
		}
	}
	if got, e := pattern.Take(v(1), types(a(), a()), 1); e != api.OK || !term.Equal(got, bind(v(0), a())) {
		t.Error(got, e)
	}
}

func TestP11_1Vars(t *testing.T) {
	for name, k := range map[string]struct {
		t      term.Term
		inside int
		want   []int
		e      api.Errno
	}{
		"no argument":                     {m(0), 0, nil, api.OK},
		"no argument, within some":        {m(7), 3, nil, api.OK},
		"one":                             {m(0, v(0)), 1, []int{0}, api.OK},
		"as they stand":                   {m(0, v(2), v(0), v(1)), 3, []int{2, 0, 1}, api.OK},
		"its own binder":                  {bind(m(0, v(0)), a()), 1, []int{0}, api.OK},
		"its own and one around":          {bind(m(0, v(2), v(1)), a(), b()), 3, []int{2, 1}, api.OK},
		"inside less than its own":        {bind(m(0, v(0)), a(), b()), 1, []int{0}, api.OK},
		"its own, but not inside":         {bind(m(0, v(1)), a(), b()), 1, nil, api.ErrPattern},
		"its own, inside none":            {bind(m(0, v(0)), a()), 0, nil, api.ErrPattern},
		"the greatest":                    {m(0, v(59)), 60, []int{59}, api.OK},
		"one more":                        {m(0, v(60)), 60, nil, api.ErrPattern},
		"above MaxItems":                  {m(0, v(2000), v(1001)), 2001, []int{2000, 1001}, api.OK},
		"the greatest number":             {m(0, v(math.MaxInt-1)), math.MaxInt, []int{math.MaxInt - 1}, api.OK},
		"an index below 0":                {m(0, v(-1)), 3, nil, api.ErrPattern},
		"the least index":                 {m(0, v(math.MinInt)), math.MaxInt, nil, api.ErrPattern},
		"two the same":                    {m(0, v(1), v(1)), 2, nil, api.ErrPattern},
		"two the same, one between":       {m(0, v(1), v(0), v(1)), 2, nil, api.ErrPattern},
		"a constant":                      {m(0, c(0)), 2, nil, api.ErrPattern},
		"a constant behind":               {m(0, v(0), c(1)), 2, nil, api.ErrPattern},
		"a metavariable":                  {m(0, m(1)), 2, nil, api.ErrPattern},
		"no kind of head":                 {m(0, tm(3, 0, nil)), 2, nil, api.ErrPattern},
		"a function":                      {m(0, long(1, a())), 2, []int{1}, api.OK},
		"a function and a variable":       {m(0, long(1, a()), v(0)), 2, []int{1, 0}, api.OK},
		"a function of functions":         {m(0, long(0, fn(), high())), 1, []int{0}, api.OK},
		"a function twice":                {m(0, long(1, a()), long(1, a())), 2, nil, api.ErrPattern},
		"the same, as of two types":       {m(0, long(1, a()), v(1)), 2, nil, api.ErrPattern},
		"a function from further out":     {m(0, long(2, a())), 2, nil, api.ErrPattern},
		"a constant's long form":          {m(0, term.Eta(term.Head{Kind: 1}, fn())), 2, nil, api.ErrPattern},
		"a metavariable's long form":      {m(0, term.Eta(term.Head{Kind: 2}, fn())), 2, nil, api.ErrPattern},
		"an argument that has one":        {m(0, v(1, v(0))), 2, nil, api.ErrPattern},
		"an argument that binds":          {m(0, bind(v(1), a())), 2, nil, api.ErrPattern},
		"a projection":                    {m(0, bind(v(0), a())), 2, nil, api.ErrPattern},
		"the other way round":             {m(0, bind(v(3, v(0), v(1)), a(), b())), 2, nil, api.ErrPattern},
		"long outside, not within":        {m(0, bind(v(2, v(0)), fn())), 2, nil, api.ErrPattern},
		"of a constant":                   {c(0), 2, nil, api.ErrArg},
		"a variable":                      {v(0), 2, nil, api.ErrArg},
		"a variable, applied":             {v(0, v(1)), 2, nil, api.ErrArg},
		"no kind":                         {tm(3, 0, nil), 2, nil, api.ErrArg},
		"a kind below 0":                  {tm(-1, 0, nil), 2, nil, api.ErrArg},
		"a constant of a metavariable":    {c(0, m(0)), 2, nil, api.ErrArg},
		"inside below 0":                  {m(0), -1, nil, api.ErrArg},
		"inside below 0, no pattern":      {m(0, c(0)), -1, nil, api.ErrArg},
		"inside the least":                {m(0, v(0)), math.MinInt, nil, api.ErrArg},
		"no metavariable, inside none":    {c(0, v(0)), 0, nil, api.ErrArg},
		"the zero term":                   {term.Term{}, 0, nil, api.ErrArg},
		"a number below 0":                {m(-5, v(0)), 1, []int{0}, api.OK},
		"both errors: what is first":      {c(0, v(9)), -1, nil, api.ErrArg},
		"as many as there are":            {m(0, v(1), v(0)), 2, []int{1, 0}, api.OK},
		"another kind in a long form":     {m(0, bind(v(1, c(0)), a())), 1, nil, api.ErrPattern},
		"a metavariable in a long form":   {m(0, bind(v(1, m(0)), a())), 1, nil, api.ErrPattern},
		"a binder of another type within": {m(0, bind(v(1, bind(v(1, v(0)), b())), fn())), 1, nil, api.ErrPattern},
	} {
		if got, e := pattern.Vars(k.t, k.inside); e != k.e || !slices.Equal(got, k.want) || e != api.OK && got != nil {
			t.Errorf("%s: %v, %d", name, got, e)
		}
	}
}

// varsOf: the variables as the chapter words them: each argument is held
// against the long forms of all indexes that there are.
func varsOf(t term.Term, inside int) ([]int, bool) {
	var vars []int
	for _, x := range t.Args {
		for i := range inside {
			if term.Equal(x, long(i, x.Binds...)) {
				vars = append(vars, i)
			}
		}
	}
	return vars, len(vars) == len(t.Args) && distinct(vars)
}

func TestP11_1VarsOfAllSmallTerms(t *testing.T) {
	found := 0
	all := ones()
	for _, args := range [][]term.Term{
		{long(0, fn()), v(1)}, {v(0), long(1, a(), fn())}, {long(1, fn(), b()), long(0, fn(), b())}, {long(1, high()), v(1)}, {v(0), v(1), v(2)},
	} {
		all = append(all, m(4, args...), bind(m(4, args...), a()), c(4, args...))
	}
	for _, x := range all {
		for inside := -1; inside < 4; inside++ {
			want, is := varsOf(x, inside)
			is = is && x.Head.Kind == 2 && inside >= 0
			got, e := pattern.Vars(x, inside)
			switch {
			case is && (e != api.OK || !slices.Equal(got, want)),
				!is && (e == api.OK || got != nil),
				(e == api.ErrArg) != (x.Head.Kind != 2 || inside < 0),
				e != api.OK && e != api.ErrArg && e != api.ErrPattern:
				t.Fatalf("%v inside %d: %v, %d; want %v, %t", x, inside, got, e, want, is)
			}
			if is && len(got) > 0 {
				found++
			}
		}
	}
	if found < 80 {
		t.Error("too few:", found)
	}
}

func TestP11_1VarsOfNumbersOfAnySize(t *testing.T) {
	for _, inside := range odd() {
		for _, i := range odd() {
			for _, k := range odd() {
				e := api.OK
				var want []int
				switch {
				case k != 2 || inside < 0:
					e = api.ErrArg
				case i < 0 || i >= inside:
					e = api.ErrPattern
				default:
					want = []int{i}
				}
				for _, meta := range []int{i, 0, inside} {
					if got, is := pattern.Vars(tm(k, meta, []term.Term{v(i)}), inside); is != e || !slices.Equal(got, want) {
						t.Errorf("%d %d of %d inside %d: %v, %d", k, meta, i, inside, got, is)
					}
				}
			}
		}
	}
}

// usesOf: the uses as the chapter words them, in the order of all paths, and
// whether all are a pattern's.
func usesOf(t term.Term) ([]pattern.Use, bool) {
	var all []pattern.Use
	for path, x := range spot.Each(t) {
		if x.Head.Kind != 2 {
			continue
		}
		_, around, _ := spot.At(t, path...)
		vars, ok := varsOf(x, len(around))
		if !ok {
			return nil, false
		}
		all = append(all, pattern.Use{Meta: x.Head.Index, Vars: vars, Binds: around, Path: path})
	}
	return all, true
}

func sameUse(x, y pattern.Use) bool {
	return x.Meta == y.Meta && slices.Equal(x.Vars, y.Vars) && sameTypes(x.Binds, y.Binds) && slices.Equal(x.Path, y.Path)
}

func TestP11_1Uses(t *testing.T) {
	for name, k := range map[string]struct {
		t    term.Term
		want []pattern.Use
		e    api.Errno
	}{
		"none":           {c(0, v(0)), nil, api.OK},
		"the zero term":  {term.Term{}, nil, api.OK},
		"loose":          {bind(c(0, v(7)), a()), nil, api.OK},
		"no kind":        {tm(3, 0, []term.Term{tm(-1, 2, nil)}), nil, api.OK},
		"itself":         {m(5), []pattern.Use{{Meta: 5}}, api.OK},
		"a number below": {m(-5), []pattern.Use{{Meta: -5}}, api.OK},
		"itself, that binds": {
			bind(m(5, v(1)), fn(), b()), []pattern.Use{{5, []int{1}, types(fn(), b()), nil}}, api.OK,
		},
		"two of one": {
			c(0, m(1), c(2, m(1))), []pattern.Use{{1, nil, nil, []int{0}}, {1, nil, nil, []int{1, 0}}}, api.OK,
		},
		"by paths, not by numbers": {
			c(0, c(0, m(9)), m(3), m(4)),
			[]pattern.Use{{9, nil, nil, []int{0, 0}}, {3, nil, nil, []int{1}}, {4, nil, nil, []int{2}}}, api.OK,
		},
		"binders on the way and its own": {
			bind(c(0, c(1), bind(v(0, bind(m(0, v(3), v(0)), high())), b())), a(), fn()),
			[]pattern.Use{{0, []int{3, 0}, types(a(), fn(), b(), high()), []int{1, 0}}}, api.OK,
		},
		"only the binders that are around": {
			bind(c(0, bind(m(0), b()), m(1, v(0)), bind(m(2, v(1)), fn())), a()),
			[]pattern.Use{{0, nil, types(a(), b()), []int{0}}, {1, []int{0}, types(a()), []int{1}}, {2, []int{1}, types(a(), fn()), []int{2}}}, api.OK,
		},
		"mixed": {mixed(), []pattern.Use{
			{3, []int{0, 2}, types(fn(), a(), high()), []int{0}},
			{2, nil, types(fn(), a()), []int{1, 0}},
			{3, []int{0, 2}, types(fn(), a(), kind.Of(0, high(), fn())), []int{2}},
		}, api.OK},
		"a loose index":                  {m(0, v(0)), nil, api.ErrPattern},
		"a loose index, within":          {bind(c(0, m(0, v(1))), a()), nil, api.ErrPattern},
		"only the first is one":          {bind(c(0, m(0, v(0)), m(0, v(0), v(0))), a()), nil, api.ErrPattern},
		"only the last is one":           {bind(c(0, m(0, c(0)), m(0, v(0))), a()), nil, api.ErrPattern},
		"a use within a use":             {bind(m(0, m(1, v(0))), a()), nil, api.ErrPattern},
		"a use within a use's long form": {bind(m(0, bind(v(1, m(1)), a())), fn()), nil, api.ErrPattern},
		"a binder that isn't around":     {c(0, bind(c(0), a()), m(0, v(0))), nil, api.ErrPattern},
	} {
		got, e := pattern.Uses(k.t)
		if e != k.e || !slices.EqualFunc(got, k.want, sameUse) || e != api.OK && got != nil {
			t.Errorf("%s: %v, %d", name, got, e)
		}
		if is := pattern.Is(k.t); is != (k.e == api.OK) {
			t.Errorf("%s: Is: %t", name, is)
		}
	}
}

func TestP11_1UsesOfAllSmallTerms(t *testing.T) {
	patterns, uses := 0, 0
	for _, x := range ones() {
		want, is := usesOf(x)
		got, e := pattern.Uses(x)
		if is && e != api.OK || !is && e != api.ErrPattern || !slices.EqualFunc(got, want, sameUse) || pattern.Is(x) != is {
			t.Fatalf("%v: %v, %d; want %v, %t", x, got, e, want, is)
		}
		if is {
			patterns++
			uses += len(got)
		}
	}
	if patterns < 3000 || uses < 2000 {
		t.Error("too few:", patterns, uses)
	}
}

// The types of binders stand in uses as they are, and many uses of one term
// have each its own.
func TestP11_1UsesOfMany(t *testing.T) {
	n := api.MaxItems + 500
	var args []term.Term
	for i := range n {
		args = append(args, bind(m(n-i, v(0), v(2)), kind.Of(i, high())))
	}
	l, e := pattern.Uses(bind(c(0, args...), fn(), b()))
	if e != api.OK || len(l) != n {
		t.Fatal(len(l), e)
	}
	for i, u := range l {
		if !sameUse(u, pattern.Use{Meta: n - i, Vars: []int{0, 2}, Binds: types(fn(), b(), kind.Of(i, high())), Path: []int{i}}) {
			t.Fatal(i, u)
		}
	}
}

// A term at and above the limits of what is right is a pattern or none, too.
func TestP11_1OfVeryDeepTerms(t *testing.T) {
	for _, depth := range []int{api.MaxNest - 1, api.MaxNest, levels} {
		x := nested(depth, m(4, v(0), v(depth-1)))
		l, e := pattern.Uses(x)
		if e != api.OK || len(l) != 1 || !slices.Equal(l[0].Vars, []int{0, depth - 1}) || !slices.Equal(l[0].Path, make([]int, depth)) {
			t.Error(depth, brief(l), e)
		}
		if len(l[0].Binds) != depth || slices.ContainsFunc(l[0].Binds, func(u kind.Type) bool { return !kind.Equal(u, b()) }) || !pattern.Linear(x) {
			t.Error(depth, brief(l[0].Binds))
		}
		x = nested(depth, m(4, v(0), v(depth)))
		if l, e := pattern.Uses(x); e != api.ErrPattern || l != nil || pattern.Is(x) || pattern.Linear(x) {
			t.Error(depth, brief(l), e)
		}
	}
}

// What isn't a pattern at its end is told so without a copy of all that is
// ahead of that.
func TestP11_1NoneIsMadeOfWhatIsNoPattern(t *testing.T) {
	x := m(0, c(0))
	for range levels {
		x = bind(c(0, m(1, v(0)), x), b())
	}
	if l, e := pattern.Uses(x); e != api.ErrPattern || l != nil {
		t.Error(brief(l), e)
	}
	x = endless(m(0, c(0)))
	if l, e := pattern.Uses(x); e != api.ErrPattern || l != nil || pattern.Is(x) || pattern.Linear(x) {
		t.Error(brief(l), e)
	}
	if pattern.Linear(c(0, m(1), m(1), endless(c(0)))) {
		t.Error("linear")
	}
}

func TestP11_1Linear(t *testing.T) {
	for name, k := range map[string]struct {
		t    term.Term
		want bool
	}{
		"no use":                       {c(0, v(0)), true},
		"the zero term":                {term.Term{}, true},
		"one":                          {m(0), true},
		"one with variables":           {bind(m(0, v(1), v(0)), a(), a()), true},
		"two, of two":                  {c(0, m(1), m(0)), true},
		"many":                         {c(0, m(1), c(2, m(0), bind(m(5, v(0)), a())), m(4)), true},
		"two of one":                   {c(0, m(1), m(1)), false},
		"two of one, far off":          {c(0, c(1, m(1), m(2)), m(3), bind(c(3, m(1, v(0))), a())), false},
		"two of one below 0":           {c(0, m(-1), m(-1)), false},
		"three of one":                 {c(0, m(1), m(1), m(1)), false},
		"two of one by two variables":  {bind(c(0, m(1, v(0)), m(1, v(1))), a(), a()), false},
		"a constant of that number":    {c(0, m(0), c(0), v(0)), true},
		"no pattern":                   {m(0, c(0)), false},
		"no pattern, behind":           {c(0, m(1), m(2, v(0))), false},
		"no pattern, of no two uses":   {bind(m(0, v(0), v(0)), a()), false},
		"mixed, where one has two":     {mixed(), false},
		"a use within, no pattern's":   {m(0, m(1)), false},
		"variables more than once":     {bind(c(0, v(0), v(0), m(0, v(0)), m(1, v(0))), a()), true},
		"a variable of that number":    {bind(c(0, m(0, v(0)), v(0)), a()), true},
		"kinds that are none, so, too": {c(0, tm(3, 1, nil), tm(3, 1, nil), m(1)), true},
	} {
		if got := pattern.Linear(k.t); got != k.want {
			t.Errorf("%s: %t", name, got)
		}
	}
}

func TestP11_1LinearOfAllSmallTerms(t *testing.T) {
	linear, not := 0, 0
	for _, x := range ones() {
		uses, is := usesOf(x)
		var metas []int
		for _, u := range uses {
			metas = append(metas, u.Meta)
		}
		want := is && distinct(metas)
		if pattern.Linear(x) != want {
			t.Fatalf("%v: %t", x, !want)
		}
		if want {
			linear++
		} else if is {
			not++
		}
	}
	if linear < 3000 || not < 100 {
		t.Error("too few:", linear, not)
	}
}

func TestP11_1Flex(t *testing.T) {
	for _, k := range odd() {
		for _, i := range odd() {
			for _, args := range [][]term.Term{nil, {c(0)}, {m(0), v(0)}} {
				for _, l := range fronts() {
					if got := pattern.Flex(bind(tm(k, i, args), l...)); got != (k == 2) {
						t.Errorf("%d %d: %t", k, i, got)
					}
				}
			}
		}
	}
	if pattern.Flex(term.Term{}) || pattern.Flex(endless(m(0))) || !pattern.Flex(m(0, endless(c(0)))) {
		t.Error("flex")
	}
}

func TestP11_4Same(t *testing.T) {
	all := lists(3, -1, 0, 1)
	for i, x := range all {
		for k, y := range all {
			if got := pattern.Same(x, y); got != (i == k) {
				t.Errorf("%v, %v: %t", x, y, got)
			}
			if !pattern.Same(slices.Clone(x), x) {
				t.Error("in other memory:", x)
			}
		}
	}
	if !pattern.Same(nil, []int{}) || !pattern.Same([]int{}, nil) || pattern.Same(nil, []int{0}) || pattern.Same([]int{0}, nil) {
		t.Error("none")
	}
	for _, n := range odd() {
		for _, k := range odd() {
			if got := pattern.Same([]int{1, n}, []int{1, k}); got != (n == k) {
				t.Error(n, k, got)
			}
		}
	}
	if x := make([]int, levels); !pattern.Same(x, make([]int, levels)) || pattern.Same(x, make([]int, levels+1)) {
		t.Error("long ones")
	}
}
