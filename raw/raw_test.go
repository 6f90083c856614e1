package raw_test

import (
	"math"
	"slices"
	"testing"

	"filigree/api"
	"filigree/kind"
	"filigree/raw"
	"filigree/term"
)

func TestTheKinds(t *testing.T) {
	if raw.Bound != 0 || raw.Const != 1 || raw.Meta != 2 || raw.Lam != 3 || raw.App != 4 {
		t.Error(raw.Bound, raw.Const, raw.Meta, raw.Lam, raw.App)
	}
	if raw.Bound != term.Bound || raw.Const != term.Const || raw.Meta != term.Meta {
		t.Error("heads are numbered otherwise than in terms")
	}
}

func TestP7_1Right(t *testing.T) {
	self := app(con(0), con(1))
	self.Kids[1] = self
	for name, c := range map[string]struct {
		r    raw.Raw
		want bool
	}{
		"the zero one":              {raw.Raw{}, true},
		"a Bound one":               {bound(3), true},
		"a Const":                   {con(3), true},
		"a Meta":                    {meta(3), true},
		"a Lam":                     {lam(a(), bound(0)), true},
		"an App":                    {app(con(1), con(0)), true},
		"rich":                      {rich(), true},
		"heads with an empty list":  {app(with(bound(0), []raw.Raw{}...), raw.Raw{Kind: raw.Const, Kids: []raw.Raw{}}), true},
		"indexes of any size":       {app(bound(math.MinInt), app(con(-1), meta(math.MaxInt))), true},
		"a type that isn't right":   {lam(of(-1, of(math.MaxInt)), con(0)), true},
		"a head with a type":        {raw.Raw{Kind: raw.Const, Type: of(3, a())}, true},
		"an App with an index":      {raw.Raw{Kind: raw.App, Index: 7, Type: b(), Kids: []raw.Raw{con(0), con(0)}}, true},
		"a Lam with an index":       {raw.Raw{Kind: raw.Lam, Index: -7, Kids: []raw.Raw{con(0)}}, true},
		"a Bound one with a kid":    {with(bound(0), con(0)), false},
		"a Const with a kid":        {with(con(0), con(0)), false},
		"a Meta with two":           {with(meta(0), con(0), con(0)), false},
		"a Lam with none":           {raw.Raw{Kind: raw.Lam}, false},
		"a Lam with two":            {with(lam(a(), con(0)), con(0), con(0)), false},
		"an App with none":          {raw.Raw{Kind: raw.App}, false},
		"an App with one":           {with(raw.Raw{Kind: raw.App}, con(0)), false},
		"an App with three":         {with(raw.Raw{Kind: raw.App}, con(0), con(0), con(0)), false},
		"no kind, 5":                {raw.Raw{Kind: 5}, false},
		"no kind, 5, of one kid":    {raw.Raw{Kind: 5, Kids: []raw.Raw{con(0)}}, false},
		"no kind, -1":               {raw.Raw{Kind: -1}, false},
		"no kind, of any size":      {raw.Raw{Kind: math.MinInt}, false},
		"wrong in a Lam":            {lam(a(), with(con(0), con(1))), false},
		"wrong in a function":       {app(raw.Raw{Kind: 5}, con(0)), false},
		"wrong in an argument":      {app(con(0), raw.Raw{Kind: raw.Lam}), false},
		"wrong in the last one":     {app(con(0), app(con(0), lam(a(), app(con(0), raw.Raw{Kind: raw.App})))), false},
		"depth 60, of Lams":         {lams(59, con(0)), true},
		"depth 61, of Lams":         {lams(60, con(0)), false},
		"depth 60, of functions":    {leftward(59, con(0)), true},
		"depth 61, of functions":    {leftward(60, con(0)), false},
		"depth 60, of arguments":    {rightward(59, con(0)), true},
		"depth 61, of arguments":    {rightward(60, con(0)), false},
		"depth 61, in a mixture":    {lams(20, leftward(20, rightward(20, con(0)))), false},
		"depth 60, in a mixture":    {lams(20, leftward(20, rightward(19, con(0)))), true},
		"size 4999":                 {bush(4999), true},
		"size 5000":                 {lam(a(), bush(4999)), true},
		"size 5001":                 {bush(5001), false},
		"size 5001, by Lams":        {lams(2, bush(4999)), false},
		"size 5001, by the first":   {app(con(0), bush(4999)), false},
		"size 5000, of two":         {app(bush(2499), lam(a(), bush(2499))), true},
		"size 5001, of two":         {app(bush(2499), lams(2, bush(2499))), false},
		"many levels":               {lams(levels, con(0)), false},
		"very many kids":            {with(con(0), make([]raw.Raw, 1<<20)...), false},
		"more than can be counted":  {doubled(api.MaxNest), false},
		"itself within":             {self, false},
		"a type of very great size": {lam(row(1<<20), con(0)), true},
	} {
		if got := raw.Right(c.r); got != c.want {
			t.Errorf("%s: %t", name, got)
		}
	}
	for _, r := range some() {
		if !raw.Right(r) {
			t.Fatalf("%s isn't right", code(r))
		}
	}
	for _, r := range wrong() {
		if raw.Right(r) || raw.Right(lam(a(), r)) || raw.Right(app(con(0), r)) {
			t.Errorf("%s is right", code(r))
		}
	}
}

func sizeOf(r raw.Raw) int {
	n := 1
	for _, x := range r.Kids {
		n += sizeOf(x)
	}
	return n
}

func TestP7_1Size(t *testing.T) {
	for _, c := range []struct {
		r    raw.Raw
		want int
	}{
		{raw.Raw{}, 1},
		{con(7), 1},
		{lam(of(0, a(), a()), con(0)), 2},
		{app(con(0), con(1)), 3},
		{app(lam(a(), bound(0)), con(1)), 4},
		{raw.Raw{Kind: raw.App}, 1},
		{with(bound(0), con(1), con(2)), 3},
		{raw.Raw{Kind: -5, Kids: []raw.Raw{con(0), lam(a(), con(1)), con(0)}}, 5},
		{bush(5001), 5001},
		{lams(61, con(0)), 62},
		{leftward(levels, con(0)), 2*levels + 1},
		{rightward(levels, con(0)), 2*levels + 1},
		{doubled(18), 1<<18 - 1},
		{with(con(0), make([]raw.Raw, 1<<20)...), 1<<20 + 1},
	} {
		if got := raw.Size(c.r); got != c.want {
			t.Errorf("Size(%.60s): %d; want %d", code(c.r), got, c.want)
		}
	}
	for _, r := range slices.Concat(some(), wrong()) {
		if raw.Size(r) != sizeOf(r) {
			t.Fatalf("Size(%s): %d", code(r), raw.Size(r))
		}
	}
}

func TestP7_1Equal(t *testing.T) {
	junk := func(r raw.Raw, u kind.Type, i int) raw.Raw {
		r.Type, r.Index = u, i
		return r
	}
	for name, c := range map[string]struct {
		x, y raw.Raw
		want bool
	}{
		"heads":                            {con(3), con(3), true},
		"kinds":                            {con(3), meta(3), false},
		"kinds, Bound and Const":           {bound(3), con(3), false},
		"a Bound one's indexes":            {bound(3), bound(4), false},
		"a Const's":                        {con(-3), con(3), false},
		"a Meta's":                         {meta(math.MinInt), meta(math.MaxInt), false},
		"a Lam's types":                    {lam(a(), bound(0)), lam(b(), bound(0)), false},
		"a Lam's types, within":            {lam(of(0, of(1, a())), bound(0)), lam(of(0, of(1, b())), bound(0)), false},
		"a Lam's kids":                     {lam(a(), bound(0)), lam(a(), bound(1)), false},
		"an App's functions":               {app(con(0), con(1)), app(con(2), con(1)), false},
		"an App's arguments":               {app(con(0), con(1)), app(con(0), con(2)), false},
		"an App's kids in another order":   {app(con(0), con(1)), app(con(1), con(0)), false},
		"a Lam and an App":                 {raw.Raw{Kind: raw.Lam}, raw.Raw{Kind: raw.App}, false},
		"more kids":                        {app(con(0), con(1)), with(raw.Raw{Kind: raw.App}, con(0), con(1), con(2)), false},
		"a head's kids":                    {with(con(0), con(1)), con(0), false},
		"a Bound one's kids":               {with(bound(0), con(1)), with(bound(0), con(2)), false},
		"a Lam's index":                    {junk(lam(a(), bound(0)), a(), 5), lam(a(), bound(0)), true},
		"an App's index and type":          {junk(app(con(0), con(1)), b(), 5), junk(app(con(0), con(1)), of(7, a()), 6), true},
		"a Bound one's type":               {junk(bound(3), b(), 3), bound(3), true},
		"a Const's type":                   {junk(con(3), b(), 3), junk(con(3), of(0, b()), 3), true},
		"a Meta's type":                    {meta(3), junk(meta(3), b(), 3), true},
		"no kind":                          {raw.Raw{Kind: 5}, raw.Raw{Kind: 6}, false},
		"one of no kind, and kids":         {raw.Raw{Kind: 5, Kids: []raw.Raw{con(0)}}, raw.Raw{Kind: 5, Kids: []raw.Raw{con(1)}}, false},
		"one of no kind":                   {raw.Raw{Kind: 5, Kids: []raw.Raw{con(0)}}, raw.Raw{Kind: 5, Kids: []raw.Raw{con(0)}}, true},
		"nil and empty":                    {app(con(0), lam(of(0, a()), con(1))), app(raw.Raw{Kind: 1, Kids: []raw.Raw{}}, lam(of(0, kind.Type{Args: []kind.Type{}}), raw.Raw{Kind: 1, Index: 1, Kids: []raw.Raw{}})), true},
		"of many levels":                   {lams(levels, con(0)), lams(levels, con(0)), true},
		"of many levels, the innermost":    {leftward(levels, con(0)), leftward(levels, con(1)), false},
		"of many levels, one more":         {rightward(levels, con(0)), rightward(levels+1, con(0)), false},
		"of many levels, the last's index": {rightward(levels, bound(0)), rightward(levels, bound(1)), false},
	} {
		if raw.Equal(c.x, c.y) != c.want || raw.Equal(c.y, c.x) != c.want {
			t.Errorf("%s: %t, %t", name, raw.Equal(c.x, c.y), raw.Equal(c.y, c.x))
		}
	}
	all := upTo(4, []raw.Raw{bound(0), bound(1), con(0), meta(1)}, a(), of(0, a()))
	codes := make([]string, len(all))
	for i, x := range all {
		codes[i] = code(x)
	}
	for i, x := range all {
		for j, y := range all {
			if raw.Equal(x, y) != (codes[i] == codes[j]) {
				t.Fatalf("Equal(%s, %s): %t", codes[i], codes[j], raw.Equal(x, y))
			}
		}
	}
	for _, x := range slices.Concat(some(), wrong()) {
		if !raw.Equal(x, twin(x)) {
			t.Fatalf("%s isn't as itself in other memory", code(x))
		}
	}
}

func TestP7_1Head(t *testing.T) {
	for k := range 3 {
		for _, i := range odd() {
			if got, want := raw.Head(k, i), (raw.Raw{Kind: k, Index: i}); !same(got, want) || len(got.Kids) != 0 {
				t.Errorf("Head(%d, %d): %s", k, i, code(got))
			}
		}
	}
	for _, k := range odd() {
		for _, i := range odd() {
			if got := raw.Head(k, i); got.Kind != k {
				t.Errorf("Head(%d, %d): %s", k, i, code(got))
			}
		}
	}
}

func TestP7_1Bind(t *testing.T) {
	f := of(0, a())
	for _, c := range []struct {
		body raw.Raw
		l    []kind.Type
		want raw.Raw
	}{
		{con(3), nil, con(3)},
		{con(3), []kind.Type{}, con(3)},
		{bound(0), types(a()), lam(a(), bound(0))},
		{bound(0), types(a(), b(), f), lam(a(), lam(b(), lam(f, bound(0))))},
		{lam(b(), bound(1)), types(a(), a()), lam(a(), lam(a(), lam(b(), bound(1))))},
		{app(con(0), bound(5)), types(of(-1, of(9))), lam(of(-1, of(9)), app(con(0), bound(5)))},
		{raw.Raw{Kind: raw.App}, types(a()), lam(a(), raw.Raw{Kind: raw.App})},
		{rich(), types(f, b()), lam(f, lam(b(), rich()))},
		{con(0), slices.Repeat(types(a()), levels), lams(levels, con(0))},
		{lams(levels, con(0)), types(a()), lams(levels+1, con(0))},
	} {
		if got := raw.Bind(c.body, c.l...); !same(got, c.want) {
			t.Errorf("Bind(%.60s, ..): %.80s; want %.80s", code(c.body), code(got), code(c.want))
		}
	}
}

func TestP7_1Call(t *testing.T) {
	for _, c := range []struct {
		f    raw.Raw
		l    []raw.Raw
		want raw.Raw
	}{
		{con(3), nil, con(3)},
		{con(3), []raw.Raw{}, con(3)},
		{con(3), []raw.Raw{bound(1)}, app(con(3), bound(1))},
		{con(3), []raw.Raw{bound(1), meta(2), con(4)}, app(app(app(con(3), bound(1)), meta(2)), con(4))},
		{lam(b(), bound(0)), []raw.Raw{app(con(0), con(1))}, app(lam(b(), bound(0)), app(con(0), con(1)))},
		{app(con(0), con(1)), []raw.Raw{con(2)}, app(app(con(0), con(1)), con(2))},
		{raw.Raw{Kind: 9}, []raw.Raw{{Kind: raw.Lam}}, app(raw.Raw{Kind: 9}, raw.Raw{Kind: raw.Lam})},
		{rich(), []raw.Raw{rich(), con(0)}, app(app(rich(), rich()), con(0))},
		{con(0), slices.Repeat([]raw.Raw{con(1)}, levels), leftward(levels, con(0))},
		{leftward(levels, con(0)), []raw.Raw{con(1)}, leftward(levels+1, con(0))},
		{con(1), []raw.Raw{rightward(levels, con(0))}, rightward(levels+1, con(0))},
	} {
		if got := raw.Call(c.f, c.l...); !same(got, c.want) {
			t.Errorf("Call(%.60s, ..): %.80s; want %.80s", code(c.f), code(got), code(c.want))
		}
	}
}

// Whatever is wrong with what is handed in, it stands within as it was.
func TestP7_1BindAndCallKeepAllOfWhatTheyGet(t *testing.T) {
	for _, x := range slices.Concat(some(), wrong()) {
		if got := raw.Bind(x, b(), a()); !same(got, lam(b(), lam(a(), x))) {
			t.Fatalf("Bind(%s, ..): %s", code(x), code(got))
		}
		if got := raw.Call(x, con(5), x); !same(got, app(app(x, con(5)), x)) {
			t.Fatalf("Call(%s, ..): %s", code(x), code(got))
		}
	}
}

// What is made of right ones is right, as long as it is neither too great nor
// too deep.
func TestP7_1WhatIsMadeIsRight(t *testing.T) {
	for _, c := range []struct {
		r    raw.Raw
		want bool
	}{
		{raw.Call(con(0), slices.Repeat([]raw.Raw{con(1)}, 59)...), true},
		{raw.Call(con(0), slices.Repeat([]raw.Raw{con(1)}, 60)...), false},
		{raw.Bind(con(0), slices.Repeat(types(a()), 59)...), true},
		{raw.Bind(con(0), slices.Repeat(types(a()), 60)...), false},
		{raw.Bind(bush(4999), a()), true},
		{raw.Bind(bush(4999), a(), a()), false},
	} {
		if raw.Right(c.r) != c.want {
			t.Errorf("%.80s: %t", code(c.r), !c.want)
		}
	}
}
