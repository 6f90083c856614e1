package subst_test

import (
	"math"
	"reflect"
	"slices"
	"testing"

	"filigree/api"
	"filigree/budget"
	"filigree/kind"
	"filigree/subst"
	"filigree/term"
)

// A handed one is all that the calls are handed.
type handed struct {
	W     term.World
	Ctx   []kind.Type
	S     subst.Subst
	Next  subst.Subst
	L     []subst.Pair
	Metas []int
	T     term.Term
}

// high: a type with types within types.
func high() kind.Type { return kind.Of(0, kind.Of(0, fn(), a()), b()) }

// rich: what has types within types, binders and arguments everywhere, and
// much to put.
func rich() handed {
	f := kind.Of(0, high(), fn())
	unary := bind(c(0, bind(v(3), high()), v(0, bind(v(0), fn(), a())), v(5)), high())
	return handed{
		W:     term.World{Bases: 2, Consts: []kind.Type{f, high(), fn()}, Metas: []kind.Type{high(), kind.Of(1, f), fn()}},
		Ctx:   []kind.Type{f, high()},
		S:     list(unary, bind(m(1, bind(v(0), high()), v(1), m(0, v(3))), high(), fn()), c(1, m(4))),
		Next:  subst.Subst{{Meta: 1, Term: bind(c(2, v(0), v(4)), f, high(), b())}, {Meta: 4, Term: c(5, bind(v(7), f))}, {Meta: 6, Term: c(0, v(1))}},
		L:     []subst.Pair{{Meta: 7, Term: unary}, {Meta: 3, Term: bind(m(2), f, high())}, {Meta: 5, Term: unary}},
		Metas: []int{2, 0, 9},
		T:     bind(m(0, bind(c(4, bind(m(2), f)), b())), f, high()),
	}
}

// joined: where all that may be is in the same memory, and is put twice.
func joined() handed {
	h := rich()
	x := bind(c(0, bind(v(1), h.Ctx...), v(5)), h.Ctx...)
	h.S = list(x, c(0, x.Args...), x)
	h.Next, h.L = h.S, h.S
	h.T = bind(m(0, many(2, bind(m(1), h.Ctx...))...), h.Ctx...)
	h.T = bind(m(2, h.T, h.T), h.Ctx...)
	return h
}

// tell: what a call tells, if it tells no error.
func tell[T any](x T, e api.Errno) T {
	if e != api.OK {
		panic(e)
	}
	return x
}

// makers: each call that tells something in memory, on what is handed in.
func makers() map[string]func(h handed) any {
	units := func() *budget.Budget { return budget.New(9000) }
	return map[string]func(h handed) any{
		"Of":               func(h handed) any { return tell(subst.Of(h.L...)) },
		"Get":              func(h handed) any { x, _ := subst.Get(h.S, 2); return x },
		"Set":              func(h handed) any { return subst.Set(h.S, 1, h.T) },
		"Set of a new one": func(h handed) any { return subst.Set(h.S, -3, h.T) },
		"Set of no order":  func(h handed) any { return subst.Set(h.L, 4, h.T) },
		"Without":          func(h handed) any { return subst.Without(h.S, h.Metas...) },
		"Without none":     func(h handed) any { return subst.Without(h.L) },
		"Domain":           func(h handed) any { return subst.Domain(h.S) },
		"Apply":            func(h handed) any { return tell(subst.Apply(h.S, h.T, units())) },
		"Apply of none":    func(h handed) any { return tell(subst.Apply(nil, h.T, units())) },
		"Apply alone":      func(h handed) any { return tell(subst.Apply(one(9, bind(h.S[0].Term)), m(9), units())) },
		"Compose":          func(h handed) any { return tell(subst.Compose(h.S, h.Next, units())) },
		"Compose of one":   func(h handed) any { return tell(subst.Compose(nil, h.Next, units())) },
		"Rename":           func(h handed) any { return tell(subst.Rename(h.T, 3)) },
		"Rename by 0":      func(h handed) any { return tell(subst.Rename(h.T, 0)) },
	}
}

// use calls all that there is on these, whatever it tells.
func use(h handed) {
	for _, n := range append(h.Metas, 0) {
		subst.Get(h.S, n)
		subst.Set(h.S, n, h.T)
		subst.Set(h.L, n, h.T)
		subst.Rename(h.T, n)
	}
	subst.Of(h.L...)
	for _, s := range []subst.Subst{h.S, h.Next, h.L} {
		subst.Right(s)
		subst.Domain(s)
		subst.Without(s, h.Metas...)
		subst.Equal(s, h.S)
		subst.Check(h.W, h.Ctx, s)
		for _, units := range []int{9, 9000} {
			subst.Apply(s, h.T, budget.New(units))
			subst.Compose(s, h.Next, budget.New(units))
			subst.Compose(h.S, s, budget.New(units))
		}
		subst.Apply(s, h.T, nil)
		subst.Compose(s, h.S, nil)
	}
}

// eachList gives all lists within x to f, each behind those within it.
func eachList(x reflect.Value, f func(l reflect.Value)) {
	switch x.Kind() {
	case reflect.Struct:
		for i := range x.NumField() {
			eachList(x.Field(i), f)
		}
	case reflect.Slice:
		for i := range x.Len() {
			eachList(x.Index(i), f)
		}
		f(x)
	}
}

// spoil changes all lists within x, and what there is room for behind them.
func spoil(x any) {
	eachList(reflect.ValueOf(x), func(l reflect.Value) {
		l = l.Slice(0, l.Cap())
		for i := range l.Len() {
			spoilOne(l.Index(i))
		}
	})
}

func spoilOne(x reflect.Value) {
	switch x.Kind() {
	case reflect.Int:
		x.SetInt(-99)
	case reflect.Struct:
		for i := range x.NumField() {
			spoilOne(x.Field(i))
		}
	default:
		x.SetZero()
	}
}

// roomy: x as new memory, with room behind each of its lists.
func roomy(x reflect.Value) reflect.Value {
	made := reflect.New(x.Type()).Elem()
	switch x.Kind() {
	case reflect.Struct:
		for i := range x.NumField() {
			made.Field(i).Set(roomy(x.Field(i)))
		}
	case reflect.Slice:
		made.Set(reflect.MakeSlice(x.Type(), x.Len(), x.Len()+3))
		for i := range x.Len() {
			made.Index(i).Set(roomy(x.Index(i)))
		}
	default:
		made.Set(x)
	}
	return made
}

func TestP9_5ArgumentsAreNotChanged(t *testing.T) {
	for _, make := range []func() handed{rich, joined} {
		h := make()
		use(h)
		if !reflect.DeepEqual(h, make()) {
			t.Error(h)
		}
		// Nothing is put into the room behind a list either.
		h = roomy(reflect.ValueOf(make())).Interface().(handed)
		want := roomy(reflect.ValueOf(h)).Interface().(handed)
		use(h)
		if !reflect.DeepEqual(h, want) {
			t.Error(h)
		}
		eachList(reflect.ValueOf(h), func(l reflect.Value) {
			for i := l.Len(); i < l.Cap(); i++ {
				if !l.Slice(0, l.Cap()).Index(i).IsZero() {
					t.Error("behind a list:", l)
				}
			}
		})
	}
}

func TestP9_5AnswersAreNewMemory(t *testing.T) {
	for name, make := range makers() {
		for _, from := range []func() handed{rich, joined} {
			h, want := from(), make(from())
			spoil(make(h))
			if !reflect.DeepEqual(h, from()) {
				t.Errorf("%s: who changes the answer changes the arguments", name)
			}
			got := make(h)
			spoil(h)
			if !reflect.DeepEqual(got, want) {
				t.Errorf("%s: who changes the arguments changes the answer", name)
			}
		}
	}
}

func TestP9_5NoTwoListsOfAnAnswerShareMemory(t *testing.T) {
	for name, make := range makers() {
		for _, from := range []func() handed{rich, joined} {
			var all [][2]uintptr
			eachList(reflect.ValueOf(make(from())), func(l reflect.Value) {
				if l.Cap() > 0 {
					all = append(all, [2]uintptr{l.Pointer(), l.Pointer() + uintptr(l.Cap())*l.Type().Elem().Size()})
				}
			})
			slices.SortFunc(all, func(x, y [2]uintptr) int { return slices.Compare(x[:], y[:]) })
			for i := 1; i < len(all); i++ {
				if all[i-1][1] > all[i][0] {
					t.Errorf("%s: two lists share memory", name)
				}
			}
			if len(all) == 0 {
				t.Errorf("%s: no lists", name)
			}
		}
	}
}

// P1: no argument makes a call panic, and every call ends.
func TestP1NoCallPanics(t *testing.T) {
	var all []handed
	for _, i := range odd() {
		for _, k := range []int{-1, 0, 1, 2, 3, math.MaxInt, math.MinInt} {
			x := bind(tm(k, i, []term.Term{bind(tm(k, i, nil), a()), v(2, tm(k, i, nil)), m(i, m(k, v(i)))}), kind.Of(i), fn())
			s := subst.Subst{{Meta: i, Term: x}, {Meta: k, Term: bind(v(i, m(i)), a())}}
			all = append(all,
				handed{term.World{Bases: i, Metas: rows(2)}, rows(1), s, list(x, bind(x, a()), v(i)), list(x), []int{i, k}, x},
				handed{small(), nil, list(x, bind(v(i), a())), slices.Clone(s), append(s, s...), []int{k, k, i}, m(0, m(1, c(0)), bind(m(i, v(k)), b()))},
				handed{term.World{Bases: 2, Metas: []kind.Type{kind.Of(k), kind.Of(0, kind.Of(i))}}, nil, one(i, bind(v(k, v(i)), fn())), one(k, v(i)), s, nil, bind(m(i, m(k)), fn())},
			)
		}
	}
	u := bind(v(0, bind(v(1, bind(v(2, v(0)), fn())), fn())), fn())
	all = append(all, handed{}, rich(), joined(),
		handed{small(), nil, list(u, u, u), list(u), list(u), []int{1}, m(0, bind(m(1, u), fn()))},
		handed{small(), nil, list(nested(levels, c(0))), list(nested(levels, m(0))), list(nested(levels, m(0))), []int{1}, nested(levels, m(0))},
		handed{small(), rows(levels), list(bind(nested(9000, v(0)), a())), nil, nil, nil, chained(levels, 0, c(0))},
		handed{small(), rows(levels), list(bind(v(levels), rows(levels)...)), nil, nil, nil, bind(m(0, many(levels, v(levels))...), rows(levels)...)},
		handed{small(), nil, list(u), nil, nil, nil, chained(levels, 0, u)},
	)
	for _, h := range all {
		use(h)
		subst.Apply(h.S, h.T, budget.New(3*work))
		subst.Compose(h.L, h.S, budget.New(3*work))
	}
	// What is too great to be made at all isn't, where it needn't be.
	for _, x := range []term.Term{doubled(80), endless()} {
		for _, units := range []int{0, 9, 3 * work} {
			subst.Apply(list(x), m(0), budget.New(units))
			subst.Apply(list(x), x, budget.New(units))
			subst.Apply(list(bind(x, a())), bind(m(0, c(0)), a()), budget.New(units))
			subst.Compose(list(x), one(3, x), budget.New(units))
		}
		subst.Right(list(x, x))
		subst.Of(one(0, x)[0], one(0, x)[0])
		subst.Get(list(c(0), x), 0)
		subst.Set(one(0, x), 0, c(0))
		subst.Without(list(x, c(0)), 0)
		subst.Domain(list(x))
		subst.Check(small(), nil, list(x))
		subst.Equal(list(x), list(c(0)))
	}
}

// P2: a call answers the same each time, whatever was called between.
func TestP2TheSameAnswers(t *testing.T) {
	first := map[string]any{}
	for name, make := range makers() {
		first[name] = make(rich())
	}
	for range 3 {
		for name, make := range makers() {
			if !reflect.DeepEqual(make(rich()), first[name]) {
				t.Error(name, "isn't the same")
			}
			use(joined())
		}
	}
}
