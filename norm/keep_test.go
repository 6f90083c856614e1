package norm_test

import (
	"math"
	"slices"
	"testing"
	"unsafe"

	"filigree/api"
	"filigree/budget"
	"filigree/kind"
	"filigree/norm"
	"filigree/raw"
	"filigree/term"
)

// high: a type with types within types.
func high() kind.Type { return of(0, of(0, fn(), a()), b()) }

// A handed one is all that the calls are handed.
type handed struct {
	w    term.World
	ctx  []kind.Type
	r    raw.Raw
	t    term.Term
	args []term.Term
}

// rich: what has types within types, binders and arguments everywhere, and much
// to put.
func rich() handed {
	f := of(0, high(), fn())
	return handed{
		w:   term.World{Bases: 2, Consts: types(f, high(), fn()), Metas: types(high(), of(1, f))},
		ctx: types(f, high()),
		r: lam(b(), app(lam(f, app(bound(0), con(1), lam(a(), app(con(2), bound(0))))),
			lam(high(), lam(fn(), app(bound(4), bound(1), bound(0)))))),
		t: bind(c(0, bind(v(4, bind(v(0), high().Args...), bind(c(1), a())), fn(), b()), v(1, bind(v(0), fn(), a()), c(2))),
			f, high(), fn()),
		args: []term.Term{
			bind(c(7, bind(v(3), high()), v(1, bind(v(0), fn(), a()), v(5))), high(), fn()),
			bind(v(1, bind(v(0), high()), v(0)), high().Args...),
		},
	}
}

// one: where all that may be is in the same memory, and is put twice.
func one() handed {
	u := high()
	f := of(0, u, u)
	x := bind(c(0, v(1), bind(v(3), u.Args...), v(0)), u, u)
	both := app(bound(0), bound(1), bound(1))
	part := bind(v(4, v(0), v(1)), f.Args...)
	return handed{
		w:    term.World{Bases: 2, Consts: types(of(0, a(), a()), f), Metas: types(u)},
		ctx:  types(u, u),
		r:    lam(u, app(lam(u, app(lam(f, app(con(0), both, both)), con(1))), bound(0))),
		t:    bind(c(0, part, part), f, u, u),
		args: []term.Term{x, x, x},
	}
}

// use calls all that there is on these.
func use(h handed) {
	norm.Long(h.w, h.ctx, h.r, budget.New(9000))
	norm.Long(h.w, h.ctx, h.r, budget.New(9))
	norm.Of(h.w, h.ctx, h.r)
	norm.Cost(h.w, h.ctx, h.r)
	norm.Typed(h.w, h.ctx, h.t, h.args...)
	norm.Put(h.t, budget.New(9000), h.args...)
	norm.Put(h.t, budget.New(5), h.args...)
	norm.Put(h.t, budget.New(5))
}

// code: all of it as one text.
func (h handed) code() string {
	l := codeWorld(h.w) + codeType(of(0, h.ctx...)) + codeRaw(h.r) + code(h.t)
	for _, x := range h.args {
		l += code(x)
	}
	return l
}

func TestP8_4ArgumentsAreNotChanged(t *testing.T) {
	h := rich()
	use(h)
	if h.code() != rich().code() {
		t.Error(h.code())
	}
	// Nothing is put into the room behind a list either.
	h.ctx = append(make([]kind.Type, 0, 9), h.ctx...)
	h.args = append(make([]term.Term, 0, 9), h.args...)
	h.t.Binds = append(make([]kind.Type, 0, 9), h.t.Binds...)
	h.t.Args = append(make([]term.Term, 0, 9), h.t.Args...)
	h.args[0].Binds = append(make([]kind.Type, 0, 9), h.args[0].Binds...)
	h.args[0].Args = append(make([]term.Term, 0, 9), h.args[0].Args...)
	use(h)
	if h.code() != rich().code() {
		t.Error(h.code())
	}
	for _, l := range [][]kind.Type{h.ctx, h.t.Binds, h.args[0].Binds} {
		if codeType(of(0, l[len(l):9]...)) != codeType(of(0, rows(9-len(l))...)) {
			t.Error("behind a list of types")
		}
	}
	for _, l := range [][]term.Term{h.args, h.t.Args, h.args[0].Args} {
		if code(c(0, l[len(l):9]...)) != code(c(0, make([]term.Term, 9-len(l))...)) {
			t.Error("behind a list of terms")
		}
	}
}

// made: what a call tells, if it tells no error.
func made(x term.Term, e api.Errno) term.Term {
	if e != api.OK {
		panic(e)
	}
	return x
}

// makers: each call that tells a term, on what is handed in.
func makers() map[string]func(h handed) term.Term {
	put := func(t term.Term, args ...term.Term) term.Term {
		return made(norm.Put(t, budget.New(9000), args...))
	}
	of := func(h handed, r raw.Raw) term.Term { return made(norm.Of(h.w, h.ctx, r)) }
	return map[string]func(h handed) term.Term{
		"Long":              func(h handed) term.Term { return made(norm.Long(h.w, h.ctx, h.r, budget.New(9000))) },
		"Of":                func(h handed) term.Term { return of(h, h.r) },
		"Of a constant":     func(h handed) term.Term { return of(h, con(1)) },
		"Of a metavariable": func(h handed) term.Term { return of(h, meta(0)) },
		"Of a variable":     func(h handed) term.Term { return of(h, bound(1)) },
		"Of a Lam":          func(h handed) term.Term { return of(h, lam(h.ctx[1], bound(0))) },
		"Put":               func(h handed) term.Term { return put(h.t, h.args...) },
		"Put of one":        func(h handed) term.Term { return put(h.t, h.args[:1]...) },
		"Put of none":       func(h handed) term.Term { return put(h.t) },
		"Put alone":         func(h handed) term.Term { return put(bind(v(0), a()), bind(h.args[0])) },
		"Put, dropped":      func(h handed) term.Term { return put(bind(c(0, h.t), h.ctx...), h.args[:2]...) },
	}
}

// spoilTypes changes all of l that it shares with others of the same memory.
func spoilTypes(l []kind.Type) {
	for i := range l {
		spoilTypes(l[i].Args)
		l[i] = of(-99, of(-98))
	}
}

// spoil changes all of l that it shares with others of the same memory.
func spoil(l []term.Term) {
	for i := range l {
		spoilTypes(l[i].Binds)
		spoil(l[i].Args)
		l[i] = bind(c(-97), of(-96))
	}
}

func spoilRaw(l []raw.Raw) {
	for i := range l {
		spoilTypes(l[i].Type.Args)
		spoilRaw(l[i].Kids)
		l[i] = lam(of(-95), con(-94))
	}
}

// grow puts something behind each list of l, where there is room.
func grow(l []term.Term) {
	_ = append(l, c(-93))
	for _, x := range l {
		growTypes(x.Binds)
		grow(x.Args)
	}
}

func growTypes(l []kind.Type) {
	_ = append(l, of(-92))
	for _, x := range l {
		growTypes(x.Args)
	}
}

func TestP8_4AnswersAreNewMemory(t *testing.T) {
	for name, make := range makers() {
		h, want := rich(), code(make(rich()))
		spoil([]term.Term{make(h)})
		if h.code() != rich().code() {
			t.Errorf("%s: who changes the answer changes the arguments", name)
		}
		got := make(h)
		spoilTypes(h.w.Consts)
		spoilTypes(h.w.Metas)
		spoilTypes(h.ctx)
		spoilRaw([]raw.Raw{h.r})
		spoil(append([]term.Term{h.t}, h.args...))
		if code(got) != want {
			t.Errorf("%s: who changes the arguments changes the answer", name)
		}
		grow([]term.Term{got})
		if code(got) != want {
			t.Errorf("%s: a list runs into another one", name)
		}
	}
}

// lists: where each list of t begins, that isn't empty.
func lists(t term.Term) []unsafe.Pointer {
	l := listsOf(t.Binds)
	if len(t.Args) > 0 {
		l = append(l, unsafe.Pointer(&t.Args[0]))
	}
	for _, x := range t.Args {
		l = append(l, lists(x)...)
	}
	return l
}

func listsOf(types []kind.Type) []unsafe.Pointer {
	var l []unsafe.Pointer
	if len(types) > 0 {
		l = append(l, unsafe.Pointer(&types[0]))
	}
	for _, x := range types {
		l = append(l, listsOf(x.Args)...)
	}
	return l
}

func TestP8_4NoTwoListsOfAnAnswerShareMemory(t *testing.T) {
	for name, make := range makers() {
		for _, h := range []handed{rich(), one()} {
			l := lists(make(h))
			seen := map[unsafe.Pointer]bool{}
			for _, p := range l {
				if seen[p] {
					t.Errorf("%s: two lists are one", name)
				}
				seen[p] = true
			}
		}
	}
	if l := lists(makers()["Of"](one())); len(l) < 20 {
		t.Error("too few lists:", len(l))
	}
}

// P1: no argument makes a call panic, and every call ends.
func TestP1NoCallPanics(t *testing.T) {
	round := c(0, c(0), c(0))
	round.Args[1] = round // it has itself within, without end
	var all []handed
	for _, i := range odd() {
		for _, k := range []int{-1, 0, 1, 2, 3, math.MaxInt, math.MinInt} {
			x := tm(types(of(i), fn()), head(k, i), tm(types(a()), head(k, i)), tm(nil, head(0, 2), tm(nil, head(k, i))))
			r := raw.Raw{Kind: k, Index: i, Type: of(i), Kids: []raw.Raw{bound(i)}}
			all = append(all,
				handed{term.World{Bases: i, Consts: types(a(), fn())}, types(of(k), fn()), app(lam(fn(), app(bound(0), bound(i))), r), x, []term.Term{x, x}},
				handed{term.World{Bases: 2, Consts: types(of(i)), Metas: types(of(0, of(k)))}, types(fn()), raw.Raw{Kind: k, Index: i}, x, []term.Term{bind(x, a()), x, x}},
				handed{small(), types(a(), fn()), lam(of(i), app(bound(i), raw.Raw{Kind: k, Index: i})), bind(x, rows(2)...), []term.Term{v(i), bind(v(i), a())}},
			)
		}
	}
	u := bind(v(0, bind(v(1, bind(v(2, v(0)), fn())), fn())), fn())
	all = append(all, handed{}, rich(),
		handed{small(), nil, lams(levels, bound(3)), bind(round, fn()), []term.Term{u}},
		handed{small(), rows(2), times(levels, s(), z()), bind(v(0, round), fn()), []term.Term{bind(round, a())}},
		handed{small(), rows(levels), z(), nested(levels, c(0)), nil},
		handed{small(), nil, z(), bind(nested(levels, v(0)), a()), []term.Term{nested(levels, c(0))}},
		handed{small(), nil, z(), bind(chain(levels, head(0, 0), c(0)), fn()), []term.Term{bind(nested(levels, v(0)), a())}},
		handed{small(), nil, z(), bind(chain(levels, head(0, 0), c(0)), fn()), []term.Term{u}},
		handed{small(), nil, z(), bind(doubled(70), fn()), []term.Term{doubled(70)}},
	)
	for _, h := range all {
		use(h)
		norm.Put(h.t, budget.New(3*work), h.args...)
		norm.Long(h.w, h.ctx, h.r, nil)
		norm.Put(h.t, nil, h.args...)
	}
}

// P2: a call answers the same each time, whatever was called between.
func TestP2TheSameAnswers(t *testing.T) {
	tell := func() []string {
		var l []string
		for _, r := range slices.Concat(some(), typed(nil, 5), []raw.Raw{rich().r, app(z(), z()), con(7)}) {
			for _, units := range []int{3, 9000} {
				b := budget.New(units)
				x, e := norm.Long(small(), nil, r, b)
				y, is := norm.Put(x, b, x.Args...)
				n, _ := norm.Cost(small(), nil, r)
				l = append(l, code(c(int(e), x, c(int(is), y), c(n), c(b.Left()))))
			}
		}
		return l
	}
	first := tell()
	for range 2 {
		if !slices.Equal(tell(), first) {
			t.Fatal("not the same")
		}
	}
}
