package spot_test

import (
	"math"
	"reflect"
	"slices"
	"testing"

	"filigree/api"
	"filigree/kind"
	"filigree/spot"
	"filigree/term"
)

// A handed one is all that the calls are handed.
type handed struct {
	T, Body     term.Term
	Binds       []kind.Type
	Path, Front []int
}

// rich: what has types within types, binders and arguments everywhere.
func rich() handed {
	return handed{
		T:     bind(c(0, bind(m(3, v(0), bind(c(5, v(1)), fn(), high())), high()), c(1, mixed())), fn(), high(), b()),
		Body:  c(4, bind(v(1, c(2)), high(), fn()), m(3, v(0))),
		Binds: []kind.Type{high(), kind.Of(1, fn(), high())},
		Path:  []int{1, 0, 0},
		Front: []int{1, 0},
	}
}

// joined: where all that may be is in the same memory, and is there twice.
func joined() handed {
	h := rich()
	x := bind(c(0, h.Body, h.Body), h.Binds...)
	h.T = bind(c(2, bind(c(3, x, x), h.Binds...), bind(c(3, x, x), h.Binds...)), h.Binds...)
	h.Body.Args = h.T.Args
	h.Front = h.Path[:2]
	return h
}

// given: all that Each gives, as it gives it.
func given(t term.Term) any {
	var all []struct {
		Path []int
		T    term.Term
	}
	for path, x := range spot.Each(t) {
		all = append(all, struct {
			Path []int
			T    term.Term
		}{path, x})
	}
	return all
}

// opened: what Open tells.
func opened(t term.Term, n int) any {
	x, binds, e := spot.Open(t, n)
	return pair{x, tell(binds, e)}
}

// A pair is a term and types.
type pair struct {
	T term.Term
	L []kind.Type
}

// tell: what a call tells, if it tells no error.
func tell[T any](x T, e api.Errno) T {
	if e != api.OK {
		panic(e)
	}
	return x
}

// at: what At tells.
func at(t term.Term, path ...int) any {
	x, around, e := spot.At(t, path...)
	return pair{x, tell(around, e)}
}

// makers: each call that tells something in memory, on what is handed in.
func makers() map[string]func(h handed) any {
	return map[string]func(h handed) any{
		"At":             func(h handed) any { return at(h.T, h.Path...) },
		"At, itself":     func(h handed) any { return at(h.T) },
		"Replace":        func(h handed) any { return tell(spot.Replace(h.T, h.Body, h.Path...)) },
		"Replace itself": func(h handed) any { return tell(spot.Replace(h.T, h.Body)) },
		"Each":           func(h handed) any { return given(h.T) },
		"All":            func(h handed) any { return spot.All(h.T) },
		"Parse":          func(h handed) any { return tell(spot.Parse("1.5.7")) },
		"Close":          func(h handed) any { return spot.Close(h.T, h.Binds) },
		"Close by none":  func(h handed) any { return spot.Close(h.T, nil) },
		"Close of none":  func(h handed) any { return spot.Close(h.Body, h.Binds) },
		"Open":           func(h handed) any { return opened(h.T, 1) },
		"Open of none":   func(h handed) any { return opened(h.T, 0) },
		"Open of all":    func(h handed) any { return opened(h.T, len(h.T.Binds)) },
	}
}

// use calls all that there is on these, whatever it tells.
func use(h handed) {
	for _, path := range [][]int{h.Path, h.Front, nil} {
		spot.At(h.T, path...)
		spot.Replace(h.T, h.Body, path...)
		spot.Replace(h.Body, term.Body(h.T), path...)
		spot.Compare(path, h.Path)
		spot.Under(h.Path, path...)
		spot.Text(path)
	}
	for _, n := range append([]int{0, 1, 2, len(h.T.Binds)}, h.Path[:min(len(h.Path), 3)]...) {
		spot.Open(h.T, n)
		spot.Open(h.Body, n)
	}
	for path, x := range spot.Each(h.T) {
		if spot.Close(x, h.Binds); len(path) > 5 {
			break
		}
	}
	spot.Close(h.T, h.T.Binds)
}

// eachList gives all lists within x to f, each behind those within it.
func eachList(x reflect.Value, f func(l reflect.Value)) {
	switch x.Kind() {
	case reflect.Struct:
		for i := range x.NumField() {
			eachList(x.Field(i), f)
		}
	case reflect.Slice:
		for i := range x.Len() {
			eachList(x.Index(i), f)
		}
		f(x)
	}
}

// spoil changes all lists within x, and what there is room for behind them.
func spoil(x any) {
	eachList(reflect.ValueOf(x), func(l reflect.Value) {
		l = l.Slice(0, l.Cap())
		for i := range l.Len() {
			spoilOne(l.Index(i))
		}
	})
}

func spoilOne(x reflect.Value) {
	switch x.Kind() {
	case reflect.Int:
		x.SetInt(-99)
	case reflect.Struct:
		for i := range x.NumField() {
			spoilOne(x.Field(i))
		}
	default:
		x.SetZero()
	}
}

// roomy: x as new memory, with room behind each of its lists.
func roomy(x reflect.Value) reflect.Value {
	made := reflect.New(x.Type()).Elem()
	switch x.Kind() {
	case reflect.Struct:
		for i := range x.NumField() {
			made.Field(i).Set(roomy(x.Field(i)))
		}
	case reflect.Slice:
		made.Set(reflect.MakeSlice(x.Type(), x.Len(), x.Len()+3))
		for i := range x.Len() {
			made.Index(i).Set(roomy(x.Index(i)))
		}
	default:
		made.Set(x)
	}
	return made
}

func TestP10_5ArgumentsAreNotChanged(t *testing.T) {
	for _, make := range []func() handed{rich, joined} {
		h := make()
		use(h)
		spot.All(h.T)
		if !reflect.DeepEqual(h, make()) {
			t.Error(h)
		}
		// Nothing is put into the room behind a list either.
		h = roomy(reflect.ValueOf(make())).Interface().(handed)
		want := roomy(reflect.ValueOf(h)).Interface().(handed)
		use(h)
		spot.All(h.T)
		if !reflect.DeepEqual(h, want) {
			t.Error(h)
		}
		eachList(reflect.ValueOf(h), func(l reflect.Value) {
			for i := l.Len(); i < l.Cap(); i++ {
				if !l.Slice(0, l.Cap()).Index(i).IsZero() {
					t.Error("behind a list:", l)
				}
			}
		})
	}
}

func TestP10_5AnswersAreNewMemory(t *testing.T) {
	for name, make := range makers() {
		for _, from := range []func() handed{rich, joined} {
			h, want := from(), make(from())
			spoil(make(h))
			if !reflect.DeepEqual(h, from()) {
				t.Errorf("%s: who changes the answer changes the arguments", name)
			}
			got := make(h)
			spoil(h)
			if !reflect.DeepEqual(got, want) {
				t.Errorf("%s: who changes the arguments changes the answer", name)
			}
		}
	}
}

func TestP10_5NoTwoListsOfAnAnswerShareMemory(t *testing.T) {
	for name, make := range makers() {
		for _, from := range []func() handed{rich, joined} {
			var all [][2]uintptr
			eachList(reflect.ValueOf(make(from())), func(l reflect.Value) {
				if l.Cap() > 0 {
					all = append(all, [2]uintptr{l.Pointer(), l.Pointer() + uintptr(l.Cap())*l.Type().Elem().Size()})
				}
			})
			slices.SortFunc(all, func(x, y [2]uintptr) int { return slices.Compare(x[:], y[:]) })
			for i := 1; i < len(all); i++ {
				if all[i-1][1] > all[i][0] {
					t.Errorf("%s: two lists share memory", name)
				}
			}
			if len(all) == 0 {
				t.Errorf("%s: no lists", name)
			}
		}
	}
}

// What Each gives hangs on what it was handed when it was called, and not on
// what is done with what it gave.
func TestP10_5EachGivesNewMemoryEachTime(t *testing.T) {
	for _, from := range []func() handed{rich, joined} {
		want := given(from().T)
		h := from()
		s := spot.Each(h.T)
		spoil(h)
		for range 2 {
			i := 0
			for path, x := range s {
				w := reflect.ValueOf(want).Index(i)
				if !slices.Equal(path, w.Field(0).Interface().([]int)) || !term.Equal(x, w.Field(1).Interface().(term.Term)) {
					t.Error(path, x)
				}
				spoil(x)
				spoil(path)
				spoil(append(path, 4))
				i++
			}
			if i != reflect.ValueOf(want).Len() {
				t.Error(i)
			}
		}
	}
}

// P1: no argument makes a call panic, and every call ends.
func TestP1NoCallPanics(t *testing.T) {
	var all []handed
	for _, i := range odd() {
		for _, k := range []int{-1, 0, 1, 2, 3, math.MaxInt, math.MinInt} {
			x := bind(tm(k, i, []term.Term{bind(tm(k, i, nil), a()), v(2, tm(k, i, nil)), m(i, m(k, v(i)))}), kind.Of(i), fn())
			all = append(all,
				handed{x, tm(k, i, x.Args), []kind.Type{kind.Of(k, kind.Of(i))}, []int{i, k}, []int{k}},
				handed{x, x, nil, []int{2, k, i}, []int{i}},
				handed{tm(k, i, nil), v(i), []kind.Type{kind.Of(i)}, []int{k, i, k}, nil},
			)
		}
	}
	all = append(all, handed{}, rich(), joined(),
		handed{nested(levels, mixed()), nested(2, v(0)), make([]kind.Type, levels), make([]int, levels), make([]int, levels)},
		handed{bind(c(0), make([]kind.Type, levels)...), c(0, nested(levels, v(0))), nil, make([]int, levels+2), []int{levels, 0}},
		handed{c(0, slices.Repeat([]term.Term{c(1)}, levels)...), c(0), nil, []int{levels - 1}, []int{levels, 0}},
	)
	for _, h := range all {
		use(h)
	}
	// What is too great to be made at all isn't, where it needn't be.
	for _, x := range []term.Term{doubled(80), endless()} {
		path := make([]int, 79) // where doubled ends
		spot.At(x, path...)
		spot.At(x, 1, 0, 1, -1)
		spot.At(endless(), 1, 1, 1, 0)
		spot.Replace(x, c(0))
		spot.Replace(c(0, c(1), c(2)), x, 5)
		spot.Replace(x, bind(x, a()), 0)
		spot.Open(x, 2)
		spot.Open(x, -1)
	}
}

// P2: a call answers the same each time, whatever was called between.
func TestP2TheSameAnswers(t *testing.T) {
	first := map[string]any{}
	for name, make := range makers() {
		first[name] = make(rich())
	}
	for range 3 {
		for name, make := range makers() {
			if !reflect.DeepEqual(make(rich()), first[name]) {
				t.Error(name, "isn't the same")
			}
			use(joined())
		}
	}
}
