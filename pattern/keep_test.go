package pattern_test

import (
	"math"
	"reflect"
	"slices"
	"testing"

	"filigree/api"
	"filigree/kind"
	"filigree/pattern"
	"filigree/term"
)

// A handed one is all that the calls are handed.
type handed struct {
	T, Body      term.Term
	Binds        []kind.Type
	Vars, Others []int
}

// rich: what has types within types, binders and arguments everywhere; Body
// stands within Binds.
func rich() handed {
	binds := types(high(), fn(), kind.Of(1, fn(), high()))
	return handed{
		T:      c(0, bind(c(1, mixed(), bind(m(4, v(0), long(2, a())), high())), fn(), b()), bind(m(5, long(0, fn(), high())), kind.Of(0, fn(), high()))),
		Body:   bind(c(4, bind(v(1, c(2)), high(), fn()), m(3, v(2), v(4)), v(9)), high()),
		Binds:  binds,
		Vars:   []int{2, 1, 0},
		Others: []int{1, 2},
	}
}

// joined: where all that may be is in the same memory, and is there twice.
func joined() handed {
	h := rich()
	x := bind(c(0, h.Body, h.Body), h.Binds...)
	h.Body = bind(c(2, x, bind(c(3, x, x), h.Binds...)), h.Binds...)
	y := bind(c(0, bind(m(1, v(0), v(2)), h.Binds...), bind(m(1, v(0), v(2)), h.Binds...)), h.Binds...)
	h.T = bind(c(2, y, y), h.Binds...)
	h.Binds = []kind.Type{h.Binds[0], h.Binds[0], {Base: 1, Args: h.Binds[0].Args}}
	h.Others = h.Vars[:2]
	return h
}

// tell: what a call tells, if it tells no error.
func tell[T any](x T, e api.Errno) T {
	if e != api.OK {
		panic(e)
	}
	return x
}

// makers: each call that tells something in memory, on what is handed in.
func makers() map[string]func(h handed) any {
	return map[string]func(h handed) any{
		"Vars": func(h handed) any {
			return tell(pattern.Vars(m(1, long(3, h.Binds...), v(0), long(1, h.Binds[:2]...)), 4))
		},
		"Uses":            func(h handed) any { return tell(pattern.Uses(h.T)) },
		"Take":            func(h handed) any { return tell(pattern.Take(h.Body, h.Binds, h.Vars...)) },
		"Take, turned":    func(h handed) any { return tell(pattern.Take(h.Body, h.Binds, 0, 2, 1)) },
		"Take of nothing": func(h handed) any { return tell(pattern.Take(h.Body, nil)) },
		"Take of closed":  func(h handed) any { return tell(pattern.Take(h.T, h.Binds, h.Others...)) },
		"Make":            func(h handed) any { return tell(pattern.Make(4, h.Binds, h.Vars...)) },
		"Make of some":    func(h handed) any { return tell(pattern.Make(4, h.Binds, h.Others...)) },
	}
}

// use calls all that there is on these, whatever it tells.
func use(h handed) {
	for _, x := range []term.Term{h.T, h.Body} {
		pattern.Is(x)
		pattern.Linear(x)
		pattern.Flex(x)
		for _, inside := range append([]int{-1, 0, 1, len(h.Binds)}, h.Vars[:min(len(h.Vars), 3)]...) {
			pattern.Vars(x, inside)
			for _, y := range x.Args[:min(len(x.Args), 3)] {
				pattern.Vars(y, inside)
			}
		}
		pattern.Uses(x)
		for _, vars := range [][]int{h.Vars, h.Others, nil} {
			pattern.Take(x, h.Binds, vars...)
			pattern.Take(x, x.Binds, vars...)
			pattern.Make(len(vars), h.Binds, vars...)
			pattern.Make(x.Head.Index, x.Binds, vars...)
			pattern.Same(vars, h.Vars)
		}
	}
}

// eachList gives all lists within x to f, each behind those within it.
func eachList(x reflect.Value, f func(l reflect.Value)) {
	switch x.Kind() {
	case reflect.Struct:
		for i := range x.NumField() {
			eachList(x.Field(i), f)
		}
	case reflect.Slice:
		for i := range x.Len() {
			eachList(x.Index(i), f)
		}
		f(x)
	}
}

// spoil changes all lists within x, and what there is room for behind them.
func spoil(x any) {
	eachList(reflect.ValueOf(x), func(l reflect.Value) {
		l = l.Slice(0, l.Cap())
		for i := range l.Len() {
			spoilOne(l.Index(i))
		}
	})
}

func spoilOne(x reflect.Value) {
	switch x.Kind() {
	case reflect.Int:
		x.SetInt(-99)
	case reflect.Struct:
		for i := range x.NumField() {
			spoilOne(x.Field(i))
		}
	default:
		x.SetZero()
	}
}

// roomy: x as new memory, with room behind each of its lists.
func roomy(x reflect.Value) reflect.Value {
	made := reflect.New(x.Type()).Elem()
	switch x.Kind() {
	case reflect.Struct:
		for i := range x.NumField() {
			made.Field(i).Set(roomy(x.Field(i)))
		}
	case reflect.Slice:
		made.Set(reflect.MakeSlice(x.Type(), x.Len(), x.Len()+3))
		for i := range x.Len() {
			made.Index(i).Set(roomy(x.Index(i)))
		}
	default:
		made.Set(x)
	}
	return made
}

func TestP11_4ArgumentsAreNotChanged(t *testing.T) {
	for _, make := range []func() handed{rich, joined} {
		h := make()
		use(h)
		if !reflect.DeepEqual(h, make()) {
			t.Error(h)
		}
		// Nothing is put into the room behind a list either.
		h = roomy(reflect.ValueOf(make())).Interface().(handed)
		want := roomy(reflect.ValueOf(h)).Interface().(handed)
		use(h)
		if !reflect.DeepEqual(h, want) {
			t.Error(h)
		}
		eachList(reflect.ValueOf(h), func(l reflect.Value) {
			for i := l.Len(); i < l.Cap(); i++ {
				if !l.Slice(0, l.Cap()).Index(i).IsZero() {
					t.Error("behind a list:", l)
				}
			}
		})
	}
}

func TestP11_4AnswersAreNewMemory(t *testing.T) {
	for name, make := range makers() {
		for _, from := range []func() handed{rich, joined} {
			h, want := from(), make(from())
			spoil(make(h))
			if !reflect.DeepEqual(h, from()) {
				t.Errorf("%s: who changes the answer changes the arguments", name)
			}
			got := make(h)
			spoil(h)
			if !reflect.DeepEqual(got, want) {
				t.Errorf("%s: who changes the arguments changes the answer", name)
			}
		}
	}
}

func TestP11_4NoTwoListsOfAnAnswerShareMemory(t *testing.T) {
	for name, make := range makers() {
		for _, from := range []func() handed{rich, joined} {
			var all [][2]uintptr
			eachList(reflect.ValueOf(make(from())), func(l reflect.Value) {
				if l.Cap() > 0 {
					all = append(all, [2]uintptr{l.Pointer(), l.Pointer() + uintptr(l.Cap())*l.Type().Elem().Size()})
				}
			})
			slices.SortFunc(all, func(x, y [2]uintptr) int { return slices.Compare(x[:], y[:]) })
			for i := 1; i < len(all); i++ {
				if all[i-1][1] > all[i][0] {
					t.Errorf("%s: two lists share memory", name)
				}
			}
			if len(all) == 0 {
				t.Errorf("%s: no lists", name)
			}
		}
	}
}

// P1: no argument makes a call panic, and every call ends.
func TestP1NoCallPanics(t *testing.T) {
	var all []handed
	for _, i := range odd() {
		for _, k := range []int{-1, 0, 1, 2, 3, math.MaxInt, math.MinInt} {
			x := bind(tm(k, i, []term.Term{bind(tm(k, i, nil), a()), v(2, tm(k, i, nil)), m(i, m(k, v(i)))}), kind.Of(i), fn())
			all = append(all,
				handed{x, m(i, v(i), v(k), x), []kind.Type{kind.Of(k, kind.Of(i))}, []int{i, k}, []int{k}},
				handed{m(k, x.Args...), tm(2, k, []term.Term{bind(v(i), a()), bind(v(i, v(0)), a())}), nil, []int{0, k, i}, []int{i}},
				handed{tm(k, i, nil), v(i), []kind.Type{kind.Of(i), kind.Of(k)}, []int{1, 0}, []int{0}},
			)
		}
	}
	down := make([]int, levels)
	for i := range down {
		down[i] = levels - 1 - i
	}
	var vars []term.Term
	for _, i := range down {
		vars = append(vars, v(i))
	}
	all = append(all, handed{}, rich(), joined(),
		handed{nested(levels, mixed()), nested(2, v(0)), make([]kind.Type, levels), make([]int, levels), down},
		handed{bind(m(0, vars...), make([]kind.Type, levels)...), c(0, nested(levels, m(0, v(0), v(levels-1)))), make([]kind.Type, levels), down, []int{levels, 0}},
		handed{m(0, slices.Repeat([]term.Term{v(1)}, levels)...), m(1, vars...), nil, []int{levels - 1}, []int{levels, 0}},
		handed{m(0, nested(levels, v(0))), deepLong(), make([]kind.Type, 4), []int{3, 2, 1}, nil},
	)
	for _, h := range all {
		use(h)
	}
	// What is too great to be gone through at all isn't, where it needn't be.
	for _, x := range []term.Term{doubled(80), endless(c(0))} {
		pattern.Flex(x)
		pattern.Flex(m(0, x))
		pattern.Vars(x, 5)
		pattern.Vars(m(0, v(0), x), 5)
		pattern.Vars(m(0, x), -1)
		for _, y := range []term.Term{m(0, x), c(0, m(0, v(0)), x), bind(c(0, m(1, v(0), v(0)), x), a())} {
			pattern.Is(y)
			pattern.Linear(y)
			pattern.Uses(y)
		}
		pattern.Linear(c(0, m(0), m(0), x))
		pattern.Take(x, types(a(), b()), 2)
		pattern.Take(x, types(a(), b()), 1, 1)
		pattern.Take(c(0, v(0), x), types(a(), b()), 1)
	}
}

// deepLong: a use, applied to a long form of many levels.
func deepLong() term.Term {
	u := a()
	for range 1000 {
		u = kind.Of(0, u)
	}
	return m(0, long(3, u))
}

// P2: a call answers the same each time, whatever was called between.
func TestP2TheSameAnswers(t *testing.T) {
	first := map[string]any{}
	for name, make := range makers() {
		first[name] = make(rich())
	}
	for range 3 {
		for name, make := range makers() {
			if !reflect.DeepEqual(make(rich()), first[name]) {
				t.Error(name, "isn't the same")
			}
			use(joined())
		}
	}
}
