package subst

import (
	"filigree/api"
	"filigree/term"
)

// Rename tells t, each metavariable's number grown.
func Rename(t term.Term, by int) (term.Term, api.Errno) {
	if e := canRename(term.Metas(t), by); e != api.OK {
		return term.Term{}, e
	}
	made := term.Copy(t)
	renumber(&made, by)
	return made, api.OK
}

// canRename tells Rename's error, where metas are the numbers, rising.
func canRename(metas []int, by int) api.Errno {
	if len(metas) == 0 {
		return api.OK
	}
	if below(metas[0], by) {
		return api.ErrArg
	}
	if above(metas[len(metas)-1], by) {
		return api.ErrLong
	}
	return api.OK
}

// below tells whether the sum of both is below 0. That may be beyond all
// numbers, where the greater one's opposite isn't.
func below(a, b int) bool {
	most := max(a, b)
	return most < 0 || min(a, b) < -most
}

// above tells whether the sum of both, which isn't below 0, is above MaxItems.
// It may be beyond all numbers, where the difference isn't.
func above(a, b int) bool { return min(a, b) > api.MaxItems-max(a, b) }

// renumber grows the numbers in t, in its own memory.
func renumber(t *term.Term, by int) {
	if t.Head.Kind == term.Meta {
		t.Head.Index += by
	}
	for i := range t.Args {
		renumber(&t.Args[i], by)
	}
}
