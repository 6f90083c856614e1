package match_test

import (
	"fmt"
	"slices"
	"strings"

	"filigree/kind"
	"filigree/term"
)

// The chapter's words, by names instead of indexes: each variable that is bound
// around a place has a name, and what a metavariable stands for is a text, in
// which the taken out variables have the names of their places.

// written: t's body as a text: within are the names of the binders within it,
// around those of the binders around it, both the innermost last.
func written(t term.Term, within, around []string) string {
	var s strings.Builder
	fmt.Fprintf(&s, "%d:%s(", t.Head.Kind, headName(t.Head, within, around))
	for _, x := range t.Args {
		inner := slices.Clone(within)
		for _, u := range x.Binds {
			inner = append(inner, fmt.Sprint("in", len(inner)))
			fmt.Fprintf(&s, "\\%v.", u)
		}
		s.WriteString(written(x, inner, around) + ",")
	}
	s.WriteString(")")
	return s.String()
}

// headName: the name of a head there; that of what is bound further out is by
// how many it is beyond.
func headName(h term.Head, within, around []string) string {
	if h.Kind != term.Bound || h.Index < 0 {
		return fmt.Sprint(h.Index)
	}
	all := slices.Concat(around, within)
	if h.Index < len(all) {
		return all[len(all)-1-h.Index]
	}
	return fmt.Sprint("out", h.Index-len(all))
}

// names: a name for each of the binders of the term at that path, with its
// type behind it.
func names(t term.Term, path string) []string {
	var l []string
	for i, u := range t.Binds {
		l = append(l, fmt.Sprint(path, "/", i, ":", u))
	}
	return l
}

// varNames: the names of the variables to which a use is applied, and whether
// it is a pattern's use there.
func varNames(p term.Term, around []string) ([]string, bool) {
	var l []string
	for _, x := range p.Args {
		for i := range around {
			if term.Equal(x, long(i, x.Binds...)) {
				l = append(l, around[len(around)-1-i])
			}
		}
	}
	distinct := len(slices.Compact(slices.Sorted(slices.Values(l)))) == len(l)
	return l, len(l) == len(p.Args) && distinct
}

// told: what is told of metavariables, by their numbers, as texts.
type told map[int]string

// meets: whether p matches t's body by what is told and more, which is put
// there.
func (f told) meets(p, t term.Term, path string, around []string) bool {
	if p.Head.Kind == term.Meta {
		return f.takes(p, t, around)
	}
	if p.Head != t.Head || len(p.Args) != len(t.Args) {
		return false
	}
	for i, x := range p.Args {
		y := t.Args[i]
		if !slices.EqualFunc(x.Binds, y.Binds, kind.Equal) {
			return false
		}
		at := fmt.Sprint(path, ".", i)
		if !f.meets(x, y, at, slices.Concat(around, names(x, at))) {
			return false
		}
	}
	return true
}

// takes is meets of a use.
func (f told) takes(p, t term.Term, around []string) bool {
	vars, ok := varNames(p, around)
	if !ok {
		panic("no pattern")
	}
	var as []string
	for _, name := range around {
		if i := slices.Index(vars, name); i >= 0 {
			as = append(as, fmt.Sprint("arg", i))
		} else {
			as = append(as, "forbidden")
		}
	}
	text := ""
	for _, name := range vars {
		text += name[strings.Index(name, ":"):]
	}
	text += " " + written(t, nil, as)
	was, met := f[p.Head.Index]
	f[p.Head.Index] = text
	return !strings.Contains(text, "forbidden") && (!met || was == text)
}

// textOf: what a term that stands for a metavariable is by these words, if it
// has as many variables as it binds.
func textOf(x term.Term) string {
	var around []string
	text := ""
	for i, u := range x.Binds {
		around = append(around, fmt.Sprint("arg", i))
		text += fmt.Sprint(":", u)
	}
	return text + " " + written(x, nil, around)
}
