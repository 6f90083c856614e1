package match_test

import (
	"math"
	"reflect"
	"slices"
	"testing"

	"filigree/api"
	"filigree/kind"
	"filigree/match"
	"filigree/subst"
	"filigree/term"
)

// A handed one is all that the calls are handed.
type handed struct {
	P, T  term.Term
	Pairs []match.Pair
}

// rich: what has types within types, binders and arguments everywhere; the
// patterns match.
func rich() handed {
	t := bind(c(0,
		bind(c(5, v(0, v(2)), v(2, c(7, v(6)))), high()),
		c(1, c(8, v(4), m(1, v(3))), v(1)),
		bind(c(6, v(0, c(1)), bind(v(2), high()), v(5)), kind.Of(0, high(), fn())),
	), fn(), a())
	return handed{
		P: mixed(),
		T: t,
		Pairs: []match.Pair{
			{Pattern: c(4, mixed(), m(1)), Term: c(4, t, c(0, bind(v(3), high())))},
			{Pattern: bind(c(3, m(1), m(7, long(0, high().Args...))), high()), Term: bind(c(3, c(0, bind(v(4), high())), c(5, v(0, c(1)), bind(v(3), a()))), high())},
			{Pattern: bind(m(7, long(0, high().Args...)), high()), Term: bind(c(5, v(0, c(1)), bind(v(3), a())), high())},
		},
	}
}

// joined: where all that may be is in the same memory, and is there twice.
func joined() handed {
	binds := []kind.Type{high(), fn()}
	x := bind(c(5, bind(v(3), binds...)), binds...)
	t := c(0, x, x, x)
	p := c(0,
		bind(m(0, long(1, high().Args...), long(0, a())), binds...),
		bind(m(0, long(1, high().Args...), long(0, a())), binds...),
		bind(m(1, long(1, high().Args...)), binds...))
	return handed{P: p, T: t, Pairs: []match.Pair{{Pattern: p, Term: t}, {Pattern: p, Term: t}, {Pattern: c(2, p, m(4), m(5)), Term: c(2, t, t, t)}}}
}

// tell: what a call tells, if it tells no error.
func tell[T any](x T, e api.Errno) T {
	if e != api.OK {
		panic(e)
	}
	return x
}

// place is what Find tells.
type place struct {
	Path  []int
	Subst subst.Subst
}

// look: what Find tells, if it tells no error.
func look(p, t term.Term) place {
	path, s, e := match.Find(p, t)
	return tell(place{path, s}, e)
}

// makers: each call that tells something in memory, on what is handed in.
func makers() map[string]func(h handed) any {
	return map[string]func(h handed) any{
		"Match":          func(h handed) any { return tell(match.Match(h.P, h.T)) },
		"Match of all":   func(h handed) any { return tell(match.Match(m(3), term.Body(h.T))) },
		"All":            func(h handed) any { return tell(match.All(h.Pairs...)) },
		"All, some":      func(h handed) any { return tell(match.All(h.Pairs[1:]...)) },
		"Find":           func(h handed) any { return look(m(0), h.T) },
		"Find of a part": func(h handed) any { return look(h.Pairs[0].Pattern, c(9, c(1), h.Pairs[0].Term, h.Pairs[0].Term)) },
		"Find of what it is in": func(h handed) any {
			return look(c(5, m(0), m(1)), c(9, c(1), bind(c(5, h.T, h.T), h.T.Binds...)))
		},
	}
}

// use calls all that there is on these, whatever it tells.
func use(h handed) {
	terms := []term.Term{h.P, h.T}
	for _, x := range h.Pairs {
		terms = append(terms, x.Pattern, x.Term)
	}
	for _, p := range terms {
		for _, t := range terms {
			match.Find(p, t)
			match.Find(term.Term{Head: p.Head, Args: p.Args}, t)
			meet(p, t)
		}
		match.All(append([]match.Pair{{Pattern: p, Term: h.T}}, h.Pairs...)...)
	}
	match.All(h.Pairs...)
	match.All(h.Pairs[:len(h.Pairs)/2]...)
}

// meet calls all that there is on a pattern and a term, but for Find.
func meet(p, t term.Term) {
	match.Match(p, t)
	match.All(pair(p, t), pair(m(0), t), pair(p, t))
	match.Is(p, t)
	match.Variant(p, t)
	match.Less(p, t)
}

// eachList gives all lists within x to f, each behind those within it.
func eachList(x reflect.Value, f func(l reflect.Value)) {
	switch x.Kind() {
	case reflect.Struct:
		for i := range x.NumField() {
			eachList(x.Field(i), f)
		}
	case reflect.Slice:
		for i := range x.Len() {
			eachList(x.Index(i), f)
		}
		f(x)
	}
}

// spoil changes all lists within x, and what there is room for behind them.
func spoil(x any) {
	eachList(reflect.ValueOf(x), func(l reflect.Value) {
		l = l.Slice(0, l.Cap())
		for i := range l.Len() {
			spoilOne(l.Index(i))
		}
	})
}

func spoilOne(x reflect.Value) {
	switch x.Kind() {
	case reflect.Int:
		x.SetInt(-99)
	case reflect.Struct:
		for i := range x.NumField() {
			spoilOne(x.Field(i))
		}
	default:
		x.SetZero()
	}
}

// roomy: x as new memory, with room behind each of its lists.
func roomy(x reflect.Value) reflect.Value {
	made := reflect.New(x.Type()).Elem()
	switch x.Kind() {
	case reflect.Struct:
		for i := range x.NumField() {
			made.Field(i).Set(roomy(x.Field(i)))
		}
	case reflect.Slice:
		made.Set(reflect.MakeSlice(x.Type(), x.Len(), x.Len()+3))
		for i := range x.Len() {
			made.Index(i).Set(roomy(x.Index(i)))
		}
	default:
		made.Set(x)
	}
	return made
}

func TestP12_4ArgumentsAreNotChanged(t *testing.T) {
	for _, make := range []func() handed{rich, joined} {
		h := make()
		use(h)
		if !reflect.DeepEqual(h, make()) {
			t.Error(h)
		}
		// Nothing is put into the room behind a list either.
		h = roomy(reflect.ValueOf(make())).Interface().(handed)
		want := roomy(reflect.ValueOf(h)).Interface().(handed)
		use(h)
		if !reflect.DeepEqual(h, want) {
			t.Error(h)
		}
		eachList(reflect.ValueOf(h), func(l reflect.Value) {
			for i := l.Len(); i < l.Cap(); i++ {
				if !l.Slice(0, l.Cap()).Index(i).IsZero() {
					t.Error("behind a list:", l)
				}
			}
		})
	}
}

func TestP12_4AnswersAreNewMemory(t *testing.T) {
	for name, make := range makers() {
		for _, from := range []func() handed{rich, joined} {
			h, want := from(), make(from())
			spoil(make(h))
			if !reflect.DeepEqual(h, from()) {
				t.Errorf("%s: who changes the answer changes the arguments", name)
			}
			got := make(h)
			spoil(h)
			if !reflect.DeepEqual(got, want) {
				t.Errorf("%s: who changes the arguments changes the answer", name)
			}
		}
	}
}

func TestP12_4NoTwoListsOfAnAnswerShareMemory(t *testing.T) {
	for name, make := range makers() {
		for _, from := range []func() handed{rich, joined} {
			var all [][2]uintptr
			eachList(reflect.ValueOf(make(from())), func(l reflect.Value) {
				if l.Cap() > 0 {
					all = append(all, [2]uintptr{l.Pointer(), l.Pointer() + uintptr(l.Cap())*l.Type().Elem().Size()})
				}
			})
			slices.SortFunc(all, func(x, y [2]uintptr) int { return slices.Compare(x[:], y[:]) })
			for i := 1; i < len(all); i++ {
				if all[i-1][1] > all[i][0] {
					t.Errorf("%s: two lists share memory", name)
				}
			}
			if len(all) == 0 {
				t.Errorf("%s: no lists", name)
			}
		}
	}
}

// P1: no argument makes a call panic, and every call ends.
func TestP1NoCallPanics(t *testing.T) {
	var all []handed
	for _, i := range odd() {
		for _, k := range []int{-1, 0, 1, 2, 3, math.MaxInt, math.MinInt} {
			x := bind(tm(k, i, []term.Term{bind(tm(k, i, nil), a()), v(2, tm(k, i, nil)), m(i, m(k, v(i)))}), kind.Of(i), fn())
			y := bind(c(i, bind(m(i, v(0)), kind.Of(k)), m(k)), fn())
			z := bind(c(i, bind(v(i), kind.Of(k)), m(i, x)), fn())
			all = append(all,
				handed{x, m(i, v(i), v(k), x), []match.Pair{{Pattern: x, Term: x}, {Pattern: tm(k, i, nil), Term: x}}},
				handed{y, z, []match.Pair{{Pattern: y, Term: z}, {Pattern: z, Term: y}, {Pattern: y, Term: y}}},
				handed{tm(k, i, nil), v(i), []match.Pair{{}}},
			)
		}
	}
	all = append(all, handed{}, rich(), joined(),
		handed{c(1, slices.Repeat([]term.Term{m(0)}, levels)...), c(1, make([]term.Term, levels)...), nil},
		handed{bind(m(0), make([]kind.Type, levels)...), bind(v(levels), make([]kind.Type, levels)...), nil},
		handed{m(0), doubled(12), []match.Pair{{Pattern: c(2, m(0), m(0)), Term: doubled(12)}, {Pattern: doubled(12), Term: doubled(12)}}},
	)
	for _, h := range all {
		use(h)
	}
	deep := []term.Term{
		nested(levels, m(0, v(0), v(levels-1))), nested(levels, c(0, v(1))), nested(levels, c(0, v(0))),
		nested(levels, m(0, v(0), v(0))), nested(levels, v(levels)), m(0, nested(levels, c(2))), m(1),
	}
	for _, p := range deep {
		for _, x := range deep {
			meet(p, x)
		}
		match.Find(c(1, bind(m(0), a())), p)
		match.Find(c(0, m(0)), p)
	}
	// What is too great to be gone through at all isn't, where it needn't be.
	for _, x := range []term.Term{doubled(80), endless(c(0))} {
		for _, p := range []term.Term{c(0), v(0), m(0, c(0)), c(3, m(0), m(1)), bind(c(2, m(0), c(1)), a())} {
			match.Match(p, x)
			match.All(pair(m(0), c(0)), pair(p, x))
			match.Is(p, x)
			match.Variant(p, x)
		}
		match.Find(v(0), x)
		match.Find(m(0, c(0)), x)
		match.Find(bind(c(0), a()), x)
	}
}

// P2: a call answers the same each time, whatever was called between.
func TestP2TheSameAnswers(t *testing.T) {
	first := map[string]any{}
	for name, make := range makers() {
		first[name] = make(rich())
	}
	for range 20 {
		for name, make := range makers() {
			if !reflect.DeepEqual(make(rich()), first[name]) {
				t.Error(name, "isn't the same")
			}
		}
		use(joined())
	}
}
