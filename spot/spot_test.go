package spot_test

import (
	"fmt"
	"slices"
	"strings"
	"testing"

	"filigree/api"
	"filigree/kind"
	"filigree/spot"
	"filigree/term"
)

func TestExample(t *testing.T) {
	x, around, e := spot.At(example(), 1, 0)
	if e != api.OK || !term.Equal(x, v(0)) || !sameTypes(around, []kind.Type{a()}) {
		t.Error(x, around, e)
	}
	if got := spot.Text([]int{1, 0}); got != "1.0" {
		t.Error(got)
	}
	var texts []string
	for _, path := range spot.All(example()) {
		texts = append(texts, spot.Text(path))
	}
	if got := strings.Join(texts, ", "); got != "-, 0, 1, 1.0" {
		t.Error(got)
	}
}

func TestP10_1At(t *testing.T) {
	x := mixed()
	for name, c := range map[string]struct {
		t      term.Term
		path   []int
		want   term.Term
		around []kind.Type
		e      api.Errno
	}{
		"itself":                    {x, nil, x, []kind.Type{fn(), a()}, api.OK},
		"itself, by an empty path":  {x, []int{}, x, []kind.Type{fn(), a()}, api.OK},
		"an argument":               {x, []int{0}, x.Args[0], []kind.Type{fn(), a(), high()}, api.OK},
		"one without binders":       {x, []int{1}, x.Args[1], []kind.Type{fn(), a()}, api.OK},
		"the last one":              {x, []int{2}, x.Args[2], []kind.Type{fn(), a(), a(), b()}, api.OK},
		"one within":                {x, []int{0, 1}, x.Args[0].Args[1], []kind.Type{fn(), a(), high(), fn(), b()}, api.OK},
		"its indexes as they are":   {x, []int{2, 0}, bind(v(0), a()), []kind.Type{fn(), a(), a(), b(), a()}, api.OK},
		"the zero term":             {term.Term{}, nil, term.Term{}, nil, api.OK},
		"far within":                {nested(levels, v(7)), make([]int, levels), v(7), slices.Repeat([]kind.Type{b()}, levels), api.OK},
		"in what is very great":     {doubled(80), slices.Repeat([]int{1, 0, 1}, 26), doubled(2), nil, api.OK},
		"in what has itself within": {endless(), []int{1, 1, 0}, c(0), slices.Repeat([]kind.Type{fn()}, 3), api.OK},
		"no argument":               {c(0), []int{0}, term.Term{}, nil, api.ErrNone},
		"behind the last one":       {x, []int{3}, term.Term{}, nil, api.ErrNone},
		"behind the last, within":   {x, []int{2, 1}, term.Term{}, nil, api.ErrNone},
		"below 0":                   {x, []int{-1}, term.Term{}, nil, api.ErrNone},
		"below 0, within":           {x, []int{0, -1}, term.Term{}, nil, api.ErrNone},
		"too far within":            {x, []int{0, 0, 0}, term.Term{}, nil, api.ErrNone},
		"wrong on the way":          {x, []int{7, 0}, term.Term{}, nil, api.ErrNone},
		"one level too far":         {nested(levels, v(7)), make([]int, levels+1), term.Term{}, nil, api.ErrNone},
		"nowhere in endless ones":   {endless(), []int{1, 1, 1, 0, 0}, term.Term{}, nil, api.ErrNone},
	} {
		got, around, e := spot.At(c.t, c.path...)
		if e != c.e || !term.Equal(got, c.want) || !sameTypes(around, c.around) {
			t.Errorf("%s: %s, %s, %d", name, brief(got), brief(around), e)
		}
	}
	for _, i := range odd() {
		if got, around, e := spot.At(x, i); (e == api.OK) != (i >= 0 && i < 3) || e != api.OK && (e != api.ErrNone || !zero(got) || len(around) > 0) {
			t.Errorf("%d: %v, %v, %d", i, got, around, e)
		}
	}
}

func TestP10_1AtOfSmallOnes(t *testing.T) {
	all := paths(4, -1, 0, 1, 2, 3)
	for _, x := range ones() {
		there := spots(x)
		for _, path := range all {
			want, ok := there[fmt.Sprint(path)]
			got, around, e := spot.At(x, path...)
			if ok && (e != api.OK || !term.Equal(got, want.t) || !sameTypes(around, want.around)) {
				t.Fatalf("%v at %v: %v, %v, %d", x, path, got, around, e)
			}
			if !ok && (e != api.ErrNone || !zero(got) || len(around) > 0) {
				t.Fatalf("%v at %v: %v, %v, %d; want ErrNone", x, path, got, around, e)
			}
		}
	}
}

func TestP10_1Replace(t *testing.T) {
	x := mixed()
	deep := slices.Repeat([]int{0}, levels)
	for name, d := range map[string]struct {
		t, body term.Term
		path    []int
		want    term.Term
		e       api.Errno
	}{
		"itself":                     {x, m(9, v(8)), nil, bind(m(9, v(8)), fn(), a()), api.OK},
		"itself, without binders":    {c(1, c(2)), m(9), []int{}, m(9), api.OK},
		"an argument":                {example(), m(9, v(8)), []int{0}, c(0, m(9, v(8)), bind(c(1, v(0)), a())), api.OK},
		"binders stay":               {example(), m(9, v(8)), []int{1}, c(0, c(2), bind(m(9, v(8)), a())), api.OK},
		"one within":                 {example(), m(9, v(8)), []int{1, 0}, c(0, c(2), bind(c(1, m(9, v(8))), a())), api.OK},
		"by binders within the body": {example(), c(4, bind(v(0), fn())), []int{0}, c(0, c(4, bind(v(0), fn())), bind(c(1, v(0)), a())), api.OK},
		"by the zero term":           {example(), term.Term{}, []int{1}, c(0, c(2), bind(v(0), a())), api.OK},
		"in the zero term":           {term.Term{}, c(3), nil, c(3), api.OK},
		"far within":                 {nested(levels, bind(v(7, c(1)), a())), c(8), deep, nested(levels, bind(c(8), a())), api.OK},
		"by what is deep":            {c(0, c(1)), c(1, nested(levels, v(3))), []int{0}, c(0, c(1, nested(levels, v(3)))), api.OK},
		"of what is very great":      {doubled(80), c(3), nil, c(3), api.OK},
		"in what has itself within":  {endless(), c(3), []int{1, 1}, bind(c(2, c(0), bind(c(2, c(0), bind(c(3), fn())), fn())), fn()), api.OK},
		"by binders":                 {example(), bind(v(0), a()), []int{0}, term.Term{}, api.ErrArg},
		"by binders, at binders":     {example(), bind(v(0), a()), []int{1}, term.Term{}, api.ErrArg},
		"by binders, itself":         {x, x, nil, term.Term{}, api.ErrArg},
		"by binders, nowhere":        {example(), bind(v(0), a()), []int{2}, term.Term{}, api.ErrArg},
		"by binders, in great ones":  {doubled(80), bind(doubled(80), a()), []int{5}, term.Term{}, api.ErrArg},
		"nowhere":                    {example(), c(3), []int{2}, term.Term{}, api.ErrNone},
		"below 0":                    {example(), c(3), []int{-1}, term.Term{}, api.ErrNone},
		"nowhere, within":            {example(), c(3), []int{1, 1}, term.Term{}, api.ErrNone},
		"too far within":             {example(), c(3), []int{1, 0, 0}, term.Term{}, api.ErrNone},
		"nowhere, by a great one":    {doubled(80), endless().Args[0], []int{0, 2}, term.Term{}, api.ErrNone},
		"one level too far":          {nested(levels-1, c(1)), c(8), deep, term.Term{}, api.ErrNone},
	} {
		if got, e := spot.Replace(d.t, d.body, d.path...); e != d.e || !term.Equal(got, d.want) {
			t.Errorf("%s: %s, %d", name, brief(got), e)
		}
	}
	for _, i := range odd() {
		if got, e := spot.Replace(x, c(3), i); (e == api.OK) != (i >= 0 && i < 3) || e != api.OK && (e != api.ErrNone || !zero(got)) {
			t.Errorf("%d: %v, %d", i, got, e)
		}
	}
}

// What is at every path of x with the body there replaced, is as it was, but
// within that body; and its binders are as they were.
func TestP10_1ReplaceOfSmallOnes(t *testing.T) {
	bodies := []term.Term{c(7), v(2, m(3), bind(v(0), fn(), a())), m(5, bind(m(2, c(3)), b()))}
	for k, x := range ones() {
		there, body := spots(x), bodies[k%3]
		for _, path := range spot.All(x) {
			got, e := spot.Replace(x, body, path...)
			if e != api.OK {
				t.Fatalf("%v at %v: %d", x, path, e)
			}
			want := map[string]found{}
			for key, f := range there {
				if front := strings.TrimSuffix(fmt.Sprint(path), "]"); !strings.HasPrefix(key, front) {
					want[key] = f
				}
			}
			for key, f := range spots(got) {
				if w, ok := want[key]; ok && (f.t.Head != w.t.Head || len(f.t.Args) != len(w.t.Args) || !sameTypes(f.around, w.around)) {
					t.Fatalf("%v at %v: at %s %v", x, path, key, f)
				}
				delete(want, key)
			}
			y, around, _ := spot.At(got, path...)
			was := there[fmt.Sprint(path)]
			if len(want) > 0 || !term.Equal(y, bind(body, was.t.Binds...)) || !sameTypes(around, was.around) {
				t.Fatalf("%v at %v: %v", x, path, got)
			}
		}
		if got, e := spot.Replace(x, bind(body, b()), k%3); e != api.ErrArg || !zero(got) {
			t.Fatalf("%v: %v, %d; want ErrArg", x, got, e)
		}
		if got, e := spot.Replace(x, body, len(x.Args)); e != api.ErrNone || !zero(got) {
			t.Fatalf("%v: %v, %d; want ErrNone", x, got, e)
		}
	}
}

// A told one is one that Each gives.
type told struct {
	path []int
	t    term.Term
}

// toldOf: what Each gives, by all paths that there may be and what is there.
func toldOf(x term.Term) []told {
	var all []told
	there := spots(x)
	for _, path := range paths(term.Depth(x)-1, 0, 1, 2) {
		if f, ok := there[fmt.Sprint(path)]; ok {
			all = append(all, told{path, f.t})
		}
	}
	return all
}

func sameTold(x, y told) bool { return slices.Equal(x.path, y.path) && term.Equal(x.t, y.t) }

// take: the first n that Each gives, or all if they are less.
func take(s func(func([]int, term.Term) bool), n int) []told {
	var l []told
	for path, x := range s {
		if len(l) == n {
			break
		}
		l = append(l, told{path, x})
	}
	return l
}

func TestP10_2Each(t *testing.T) {
	x := mixed()
	want := []told{
		{nil, x}, {[]int{0}, x.Args[0]}, {[]int{0, 0}, v(0)}, {[]int{0, 1}, bind(c(5), fn(), b())},
		{[]int{1}, c(1)}, {[]int{2}, x.Args[2]}, {[]int{2, 0}, bind(v(0), a())},
	}
	if got := take(spot.Each(x), 99); !slices.EqualFunc(got, want, sameTold) {
		t.Error(got)
	}
	for _, x := range ones() {
		want := toldOf(x)
		if got := take(spot.Each(x), 999); !slices.EqualFunc(got, want, sameTold) {
			t.Fatalf("%v: %v", x, got)
		}
		all := spot.All(x)
		if !slices.EqualFunc(all, want, func(path []int, w told) bool { return slices.Equal(path, w.path) }) {
			t.Fatalf("%v: %v", x, all)
		}
	}
}

func TestP10_2EachMayBeLeftAnywhere(t *testing.T) {
	for _, x := range append(ofSize(3), mixed(), c(0, mixed(), nested(4, mixed()), example()), doubled(4)) {
		want := toldOf(x)
		s := spot.Each(x)
		for n := range len(want) {
			if got := take(s, n); !slices.EqualFunc(got, want[:n], sameTold) {
				t.Fatalf("%v, left behind %d: %v", x, n, got)
			}
			// It asks no more, once it was told to stop.
			calls := 0
			s(func([]int, term.Term) bool { calls++; return calls <= n })
			if calls != n+1 {
				t.Fatalf("%v, left at %d: %d calls", x, n, calls)
			}
		}
		if got := take(s, len(want)+1); !slices.EqualFunc(got, want, sameTold) {
			t.Fatalf("%v, once more: %v", x, got)
		}
	}
}

func TestP10_2EachWithinEach(t *testing.T) {
	x := mixed()
	want := toldOf(x)
	s := spot.Each(x)
	var got []told
	for path, y := range s {
		for other := range s {
			if slices.Equal(other, path) {
				got = append(got, told{path, y})
			}
		}
	}
	if !slices.EqualFunc(got, want, sameTold) {
		t.Error(got)
	}
}

func TestP10_2EachOfGreatOnes(t *testing.T) {
	for path, x := range spot.Each(nested(levels, c(1))) {
		if len(path) == 3 {
			if !slices.Equal(path, []int{0, 0, 0}) || len(x.Args) != 1 {
				t.Error(path, brief(x))
			}
			break
		}
	}
	deep := spot.All(nested(3000, c(1)))
	for i, path := range deep {
		if len(path) != i || slices.Max(append(path, 0)) != 0 {
			t.Fatal(i, path)
		}
	}
	wide := spot.All(c(0, slices.Repeat([]term.Term{c(1)}, levels)...))
	for i, path := range wide[1:] {
		if !slices.Equal(path, []int{i}) {
			t.Fatal(i, path)
		}
	}
	if len(deep) != 3001 || len(wide) != levels+1 || len(wide[0]) != 0 {
		t.Error(len(deep), len(wide))
	}
}

func TestP10_4Close(t *testing.T) {
	for name, c := range map[string]struct {
		t     term.Term
		binds []kind.Type
		want  term.Term
	}{
		"by none":                 {mixed(), nil, mixed()},
		"by an empty list":        {mixed(), []kind.Type{}, mixed()},
		"of no binders":           {c(1, v(0)), []kind.Type{fn(), a()}, bind(c(1, v(0)), fn(), a())},
		"ahead of its own":        {bind(c(1, v(0)), b(), high()), []kind.Type{fn(), a()}, bind(c(1, v(0)), fn(), a(), b(), high())},
		"its indexes as they are": {bind(v(3), b()), []kind.Type{fn()}, bind(v(3), fn(), b())},
		"the zero term":           {term.Term{}, []kind.Type{b()}, bind(v(0), b())},
		"far within":              {nested(levels, v(9)), []kind.Type{a()}, bind(nested(levels, v(9)), a(), b())},
		"by very many":            {bind(c(1), b()), slices.Repeat([]kind.Type{fn()}, levels), bind(c(1), append(slices.Repeat([]kind.Type{fn()}, levels), b())...)},
	} {
		if got := spot.Close(c.t, c.binds); !term.Equal(got, c.want) {
			t.Errorf("%s: %s", name, brief(got))
		}
	}
}

func TestP10_4Open(t *testing.T) {
	x := bind(c(1, v(2), bind(v(0), b())), fn(), b(), high())
	for name, c := range map[string]struct {
		t     term.Term
		n     int
		want  term.Term
		binds []kind.Type
		e     api.Errno
	}{
		"none":                    {x, 0, x, nil, api.OK},
		"one":                     {x, 1, bind(x, b(), high()), []kind.Type{fn()}, api.OK},
		"two":                     {x, 2, bind(x, high()), []kind.Type{fn(), b()}, api.OK},
		"all":                     {x, 3, bind(x), []kind.Type{fn(), b(), high()}, api.OK},
		"none of none":            {c(4), 0, c(4), nil, api.OK},
		"none of the zero term":   {term.Term{}, 0, term.Term{}, nil, api.OK},
		"its indexes as they are": {bind(v(3), b()), 1, v(3), []kind.Type{b()}, api.OK},
		"of what is deep":         {nested(levels, v(9)), 1, bind(nested(levels, v(9))), []kind.Type{b()}, api.OK},
		"one more than it binds":  {x, 4, term.Term{}, nil, api.ErrArg},
		"one of none":             {c(4, x), 1, term.Term{}, nil, api.ErrArg},
		"below 0":                 {x, -1, term.Term{}, nil, api.ErrArg},
		"below 0, of none":        {c(4), -1, term.Term{}, nil, api.ErrArg},
		"of what is very great":   {doubled(80), 1, term.Term{}, nil, api.ErrArg},
		"below 0, of endless":     {endless(), -1, term.Term{}, nil, api.ErrArg},
	} {
		got, binds, e := spot.Open(c.t, c.n)
		if e != c.e || !term.Equal(got, c.want) || !sameTypes(binds, c.binds) {
			t.Errorf("%s: %s, %v, %d", name, brief(got), binds, e)
		}
	}
	for _, n := range odd() {
		if got, binds, e := spot.Open(x, n); (e == api.OK) != (n >= 0 && n < 4) || e != api.OK && (e != api.ErrArg || !zero(got) || len(binds) > 0) {
			t.Errorf("%d: %v, %v, %d", n, got, binds, e)
		}
	}
}
