package raw_test

import (
	"math"
	"slices"
	"testing"
	"unsafe"

	"filigree/kind"
	"filigree/raw"
	"filigree/term"
)

// use calls all that there is on these.
func use(w term.World, ctx []kind.Type, x, y raw.Raw, u term.Term, l ...kind.Type) {
	raw.Right(x)
	raw.Size(x)
	raw.Equal(x, y)
	raw.Head(x.Kind, x.Index)
	raw.Bind(x, l...)
	raw.Call(x, y, x)
	raw.Infer(w, ctx, x)
	raw.Subst(x, y)
	raw.Step(x)
	raw.Loose(x)
	raw.From(u)
}

// richTerm: a term with binders and types with types within.
func richTerm() term.Term {
	f := of(0, of(1, a()))
	return tm(types(f, b()), head(0, 1), tm(types(of(1, f)), head(1, 2), tm(nil, head(0, 0))), tm(types(f, f), head(2, 1)))
}

// codeTerm: t, told so that no two terms are told the same.
func codeTerm(t term.Term) string {
	s := codeType(of(t.Head.Kind, append(slices.Clone(t.Binds), of(t.Head.Index))...))
	for _, x := range t.Args {
		s += "(" + codeTerm(x) + ")"
	}
	return s
}

func codeWorld(w term.World) string {
	return codeType(of(w.Bases, of(0, w.Consts...), of(0, w.Metas...)))
}

func TestP7_4ArgumentsAreNotChanged(t *testing.T) {
	ctx := types(of(1, b()), of(0, a()))
	x, y, w, within, u, l := rich(), rich(), small(), twinType(of(0, ctx...)).Args, richTerm(), types(of(0, b()), a())
	use(w, within, x, y, u, l...)
	use(w, within, app(con(1), app(lam(a(), bound(0)), con(0))), y, u, l...)
	if !same(x, rich()) || !same(y, rich()) || codeWorld(w) != codeWorld(small()) || codeTerm(u) != codeTerm(richTerm()) {
		t.Error(code(x), code(y), codeWorld(w), codeTerm(u))
	}
	if codeType(of(0, within...)) != codeType(of(0, ctx...)) || codeType(of(0, l...)) != codeType(of(0, of(0, b()), a())) {
		t.Error(within, l)
	}
	// Nothing is put into the room behind a list either.
	room := append(make([]kind.Type, 0, 9), ctx...)
	kids := append(make([]raw.Raw, 0, 9), lam(a(), app(bound(1), bound(0))), con(0))
	r := lam(of(0, a()), raw.Raw{Kind: raw.App, Kids: kids})
	use(w, room, r, r, u, room...)
	raw.Call(con(0), kids...)
	raw.Infer(w, room, lam(a(), lam(b(), lam(a(), bound(4)))))
	if codeType(of(0, room[:9][2:]...)) != codeType(of(0, make([]kind.Type, 7)...)) || !same(with(con(0), kids[:9][2:]...), with(con(0), make([]raw.Raw, 7)...)) {
		t.Error("behind the lists")
	}
}

// makers: each call that tells a raw term, on what is handed in.
func makers() map[string]func(x, y raw.Raw, l []kind.Type) raw.Raw {
	return map[string]func(x, y raw.Raw, l []kind.Type) raw.Raw{
		"Bind":            func(x, _ raw.Raw, l []kind.Type) raw.Raw { return raw.Bind(x, l...) },
		"Bind by none":    func(x, _ raw.Raw, _ []kind.Type) raw.Raw { return raw.Bind(x) },
		"Call":            func(x, y raw.Raw, _ []kind.Type) raw.Raw { return raw.Call(x, y, x) },
		"Call on none":    func(x, _ raw.Raw, _ []kind.Type) raw.Raw { return raw.Call(x) },
		"Subst":           func(x, y raw.Raw, _ []kind.Type) raw.Raw { return raw.Subst(x, y) },
		"Subst all of it": func(_, y raw.Raw, _ []kind.Type) raw.Raw { return raw.Subst(bound(0), y) },
		"Subst nothing":   func(x, _ raw.Raw, _ []kind.Type) raw.Raw { return raw.Subst(x, con(0)) },
		"Step":            func(x, _ raw.Raw, _ []kind.Type) raw.Raw { s, _ := raw.Step(x); return s },
		"Step of itself":  func(x, y raw.Raw, _ []kind.Type) raw.Raw { s, _ := raw.Step(app(x, y)); return s },
		"Step, none":      func(_, y raw.Raw, _ []kind.Type) raw.Raw { s, _ := raw.Step(app(con(0), y)); return s },
		"From": func(_, _ raw.Raw, l []kind.Type) raw.Raw {
			return raw.From(tm(l, head(1, 0), tm(l, head(0, 1))))
		},
		"Infer": func(_, _ raw.Raw, l []kind.Type) raw.Raw {
			u, _ := raw.Infer(term.World{Bases: 2, Consts: l}, nil, con(1))
			return lam(u, con(0))
		},
		"Infer in a context": func(_, _ raw.Raw, l []kind.Type) raw.Raw {
			u, _ := raw.Infer(term.World{Bases: 2}, l, bound(0))
			return lam(u, con(0))
		},
		"Infer of a Lam": func(_, _ raw.Raw, l []kind.Type) raw.Raw {
			u, _ := raw.Infer(term.World{Bases: 2}, nil, lam(l[1], bound(0)))
			return lam(u, con(0))
		},
		"Infer of an App": func(_, _ raw.Raw, l []kind.Type) raw.Raw {
			u, _ := raw.Infer(term.World{Bases: 2, Consts: l}, l[:1], app(con(1), bound(0)))
			return lam(u, con(0))
		},
	}
}

// normal: a raw term of much in it, that has no step.
func normal() raw.Raw {
	return lam(of(0, of(1, a())), app(app(meta(2), lam(of(1, b()), bound(2))), raw.Raw{Kind: raw.Const, Type: of(0, b()), Index: 1}))
}

func TestP7_4AnswersAreNewMemory(t *testing.T) {
	l := func() []kind.Type { return types(of(0, a()), of(1, of(0, a()), of(0, of(1, b())))) }
	for name, make := range makers() {
		x, y, u := rich(), normal(), l()
		want := code(make(rich(), normal(), l()))
		spoil(make(x, y, u))
		if !same(x, rich()) || !same(y, normal()) || codeType(of(0, u...)) != codeType(of(0, l()...)) {
			t.Errorf("%s: who changes the answer changes the arguments", name)
		}
		got := make(x, y, u)
		spoil(x)
		spoil(y)
		spoilTypes(u)
		if code(got) != want {
			t.Errorf("%s: who changes the arguments changes the answer", name)
		}
		grow(got)
		if code(got) != want {
			t.Errorf("%s: a list runs into another one", name)
		}
	}
}

// listsOf: where each list of r begins, that isn't empty.
func listsOf(r raw.Raw) []unsafe.Pointer {
	l := listsOfType(r.Type)
	if len(r.Kids) > 0 {
		l = append(l, unsafe.Pointer(&r.Kids[0]))
	}
	for _, x := range r.Kids {
		l = append(l, listsOf(x)...)
	}
	return l
}

func listsOfType(t kind.Type) []unsafe.Pointer {
	var l []unsafe.Pointer
	if len(t.Args) > 0 {
		l = append(l, unsafe.Pointer(&t.Args[0]))
	}
	for _, x := range t.Args {
		l = append(l, listsOfType(x)...)
	}
	return l
}

func TestP7_4NoTwoListsOfAnAnswerShareMemory(t *testing.T) {
	u := of(0, of(1, a()), b())
	part := lam(u, app(lam(u, bound(1)), lam(u, bound(0))))
	whole := lam(u, app(app(part, part), app(bound(0), bound(0))))
	for name, make := range makers() {
		l := listsOf(make(whole, part, types(u, u)))
		if len(l) == 0 {
			t.Errorf("%s: no lists", name)
		}
		seen := map[unsafe.Pointer]bool{}
		for _, p := range l {
			if seen[p] {
				t.Errorf("%s: two lists are one", name)
			}
			seen[p] = true
		}
	}
}

// P1: no argument makes a call panic, and every call ends.
func TestP1NoCallPanics(t *testing.T) {
	raws := slices.Concat(wrong(), []raw.Raw{rich(), normal(), bush(7001), lams(levels, bound(3)), leftward(levels, con(0)), rightward(levels, con(0)), doubled(14), with(con(0), make([]raw.Raw, 9000)...)})
	for _, k := range odd() {
		for _, i := range odd() {
			raws = append(raws, raw.Raw{Kind: k, Index: i, Type: of(k, of(i)), Kids: []raw.Raw{lam(of(i), bound(i)), meta(k)}})
		}
		raws = append(raws, app(lam(of(k), lam(a(), app(bound(1), bound(k)))), app(con(k), bound(k))), raw.Head(3, k), raw.Head(4, k))
	}
	worlds := []term.World{{}, small(), {Bases: -1}, {Bases: math.MaxInt, Consts: types(of(-1), of(0, of(7))), Metas: types(of(math.MinInt))}}
	for _, x := range raws {
		u := tm(types(of(x.Kind)), head(x.Kind, x.Index), tm(nil, head(x.Index, x.Kind)))
		for _, w := range worlds {
			use(w, types(of(-1), of(0, a())), x, raws[0], u, of(-1), of(0, of(3)))
			use(w, nil, raws[1], x, term.Term{})
		}
	}
	for _, k := range odd() {
		raw.Step(app(lam(a(), lam(a(), app(bound(1), bound(k)))), lam(a(), bound(k))))
		raw.Loose(lam(a(), raw.Subst(lam(a(), bound(1)), bound(k))))
	}
}

// P2: a call answers the same each time, whatever was called between.
func TestP2TheSameAnswers(t *testing.T) {
	tell := func() []string {
		var l []string
		for _, x := range slices.Concat(some(), wrong(), []raw.Raw{rich(), bound(math.MaxInt)}) {
			y, ok := raw.Step(x)
			u, e := raw.Infer(small(), types(b(), of(1, a())), x)
			z := raw.Call(raw.Head(raw.Const, int(e)), y, raw.Bind(x, u), raw.Subst(lam(a(), bound(1)), x), con(raw.Loose(x)), con(raw.Size(x)))
			if ok && raw.Right(y) && raw.Equal(x, y) {
				z = lam(b(), z)
			}
			l = append(l, code(z))
		}
		return l
	}
	first := tell()
	for range 2 {
		if !slices.Equal(tell(), first) {
			t.Fatal("not the same")
		}
	}
}
