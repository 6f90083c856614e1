package match

import (
	"slices"

	"filigree/api"
	"filigree/kind"
	"filigree/pattern"
	"filigree/subst"
	"filigree/term"
)

// found is what was found for each metavariable.
type found map[int]term.Term

// pairs tells what was found, in no order.
func (f found) pairs() []subst.Pair {
	var l []subst.Pair
	for meta, x := range f {
		l = append(l, subst.Pair{Meta: meta, Term: x})
	}
	return l
}

// matching goes through a pattern and a term at the same time. The binders
// around where it stands are its stack.
type matching struct {
	found
	binds []kind.Type
}

// meet tells whether p, by what was found up to here, matches t, and finds what
// is new in it. No more is asked of a matching that told false.
func (m *matching) meet(p, t term.Term) bool {
	// What is found is copied, which would be for nothing if they clash behind.
	return alike(p, t) && m.find(p, t)
}

// alike tells whether p and t are the same but for p's uses.
func alike(p, t term.Term) bool {
	if !slices.EqualFunc(p.Binds, t.Binds, kind.Equal) {
		return false
	}
	return pattern.Flex(p) || p.Head == t.Head && slices.EqualFunc(p.Args, t.Args, alike)
}

// find is meet where they are alike.
func (m *matching) find(p, t term.Term) bool {
	m.binds = append(m.binds, p.Binds...)
	if !m.bodies(p, t) {
		return false
	}
	m.binds = m.binds[:len(m.binds)-len(p.Binds)]
	return true
}

// bodies is find for what stands behind their own binders.
func (m *matching) bodies(p, t term.Term) bool {
	if pattern.Flex(p) {
		return m.use(p, t)
	}
	for i, x := range p.Args {
		if !m.find(x, t.Args[i]) {
			return false
		}
	}
	return true
}

// use finds what stands at a use.
func (m *matching) use(p, t term.Term) bool {
	// In a pattern each use has variables: there is no error.
	vars, _ := pattern.Vars(p, len(m.binds))
	x, e := pattern.Take(term.Term{Head: t.Head, Args: t.Args}, m.binds, vars...)
	if e != api.OK {
		return false
	}
	was, ok := m.found[p.Head.Index]
	if !ok {
		m.found[p.Head.Index] = x
		return true
	}
	return term.Equal(was, x)
}
