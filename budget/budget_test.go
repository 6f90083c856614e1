package budget_test

import (
	"math"
	"sync"
	"testing"

	"filigree/budget"
)

// The calls keep the signatures that the chapter lists.
var (
	_ func(int) *budget.Budget                 = budget.New
	_ func(*budget.Budget, int) bool           = (*budget.Budget).Spend
	_ func(*budget.Budget) int                 = (*budget.Budget).Left
	_ func(*budget.Budget) int                 = (*budget.Budget).Used
	_ func(*budget.Budget) bool                = (*budget.Budget).Dry
	_ func(*budget.Budget, int) *budget.Budget = (*budget.Budget).Split
	_ func(*budget.Budget, ...*budget.Budget)  = (*budget.Budget).Back
	_ func(*budget.Budget, ...int) bool        = (*budget.Budget).All
)

// odd: numbers of any size.
func odd() []int {
	return []int{math.MinInt, math.MinInt + 1, math.MinInt32, -7, -1, 0, 1, 2, 3, 7, math.MaxInt32, math.MaxInt - 1, math.MaxInt}
}

// want holds a budget against what it should tell.
func want(t *testing.T, what string, b *budget.Budget, left, used int, dry bool) {
	t.Helper()
	if b.Left() != left || b.Used() != used || b.Dry() != dry {
		t.Errorf("%s: left %d, used %d, dry %v; want %d, %d, %v", what, b.Left(), b.Used(), b.Dry(), left, used, dry)
	}
}

// wantBool holds an answer against what it should be.
func wantBool(t *testing.T, what string, got, want bool) {
	t.Helper()
	if got != want {
		t.Errorf("%s: %v, want %v", what, got, want)
	}
}

// dried: a budget of n that ran dry, and has that many left again.
func dried(n, left int) *budget.Budget {
	b := budget.New(n)
	b.Spend(n + 1)
	b.Back(budget.New(left))
	return b
}

func TestP2_1_New(t *testing.T) {
	for _, n := range odd() {
		want(t, "new", budget.New(n), max(n, 0), 0, false)
	}
	if budget.New(3) == budget.New(3) {
		t.Error("two budgets are one")
	}
	a, b := budget.New(3), budget.New(3)
	a.Spend(2)
	want(t, "another one", b, 3, 0, false)
	want(t, "a budget's zero value", new(budget.Budget), 0, 0, false)
}

func TestP2_1_LeftAndUsedAreAllTogether(t *testing.T) {
	b := budget.New(10)
	b.Spend(3)
	want(t, "spent", b, 7, 3, false)
	c := b.Split(4)
	want(t, "split", b, 3, 7, false)
	want(t, "split off", c, 4, 0, false)
	c.Spend(1)
	want(t, "split off, spent", c, 3, 1, false)
	b.Back(c)
	want(t, "came back", b, 6, 4, false)
	want(t, "gone back", c, 0, 4, false)
	b.Spend(9)
	want(t, "ran dry", b, 0, 10, true)
}

func TestP2_1_UsedIsLessWhatCameBack(t *testing.T) {
	b := budget.New(3)
	b.Back(budget.New(10))
	want(t, "more came back than it had", b, 13, -10, false)
	wantBool(t, "spend what came back", b.Spend(12), true)
	want(t, "what came back was spent", b, 1, 2, false)
}

func TestP2_1_DryStays(t *testing.T) {
	b := budget.New(2)
	wantBool(t, "dry at first", b.Dry(), false)
	b.Spend(2)
	wantBool(t, "dry at none left", b.Dry(), false)
	b.Spend(1)
	wantBool(t, "dry", b.Dry(), true)
	b.Back(budget.New(5))
	b.Split(1)
	wantBool(t, "dry, though some came back", b.Dry(), true)
}

func TestP2_2_Example(t *testing.T) {
	b := budget.New(5)
	wantBool(t, "3 of 5", b.Spend(3), true)
	want(t, "3 of 5", b, 2, 3, false)
	wantBool(t, "3 of 2", b.Spend(3), false)
	want(t, "3 of 2", b, 0, 5, true)
}

func TestP2_2_SpendBelowNone(t *testing.T) {
	for _, n := range []int{-1, -7, math.MinInt} {
		b := budget.New(5)
		wantBool(t, "below 0", b.Spend(n), false)
		want(t, "below 0", b, 5, 0, false)
		d := dried(0, 4)
		wantBool(t, "below 0, dry", d.Spend(n), false)
		want(t, "below 0, dry", d, 4, -4, true)
	}
}

func TestP2_2_SpendAtTheEdge(t *testing.T) {
	for _, n := range []int{0, 1, 2, 7, math.MaxInt32, math.MaxInt - 1} {
		b := budget.New(n)
		wantBool(t, "none", b.Spend(0), true)
		want(t, "none", b, n, 0, false)
		wantBool(t, "all", b.Spend(n), true)
		want(t, "all", b, 0, n, false)
		wantBool(t, "none of none", b.Spend(0), true)
		want(t, "none of none", b, 0, n, false)
		c := budget.New(n)
		wantBool(t, "one more", c.Spend(n+1), false)
		want(t, "one more", c, 0, n, true)
	}
	b := budget.New(math.MaxInt)
	wantBool(t, "the greatest", b.Spend(math.MaxInt), true)
	want(t, "the greatest", b, 0, math.MaxInt, false)
}

func TestP2_2_SpendWhenItRanDryAhead(t *testing.T) {
	for _, n := range []int{0, 1, 3, 4, 5, math.MaxInt} {
		b := dried(2, 4)
		want(t, "dry with some", b, 4, -2, true)
		wantBool(t, "spend", b.Spend(n), false)
		want(t, "what is left is spent", b, 0, 2, true)
		wantBool(t, "spend again", b.Spend(0), false)
		want(t, "none is left", b, 0, 2, true)
	}
}

func TestP2_3_All(t *testing.T) {
	b := budget.New(6)
	wantBool(t, "of none", b.All(), true)
	want(t, "of none", b, 6, 0, false)
	wantBool(t, "of some", b.All(1, 0, 2, 3), true)
	want(t, "of some", b, 0, 6, false)
	wantBool(t, "of a nil list", b.All([]int(nil)...), true)
}

func TestP2_3_AllStopsAtTheFirst(t *testing.T) {
	b := budget.New(6)
	wantBool(t, "below 0", b.All(2, -1, 1), false)
	want(t, "below 0", b, 4, 2, false)
	wantBool(t, "below 0 at last", b.All(1, -1), false)
	want(t, "below 0 at last", b, 3, 3, false)
	wantBool(t, "too many", b.All(2, 2, -1), false)
	want(t, "too many", b, 0, 6, true)

	d := dried(0, 4)
	wantBool(t, "dry, below 0 ahead", d.All(-1, 1), false)
	want(t, "dry, below 0 ahead", d, 4, -4, true)
	wantBool(t, "dry, of none", d.All(), true)
	want(t, "dry, of none", d, 4, -4, true)
	wantBool(t, "dry", d.All(0), false)
	want(t, "dry", d, 0, 0, true)
}

func TestP2_3_AllKeepsItsList(t *testing.T) {
	l := []int{1, 2, -1, 4}
	budget.New(9).All(l...)
	if l[0] != 1 || l[1] != 2 || l[2] != -1 || l[3] != 4 {
		t.Error("the list was changed:", l)
	}
}

func TestP2_4_Split(t *testing.T) {
	for _, x := range []struct{ of, n, got int }{
		{5, 2, 2}, {5, 0, 0}, {5, 5, 5}, {5, 6, 5}, {5, math.MaxInt, 5},
		{5, -1, 0}, {5, math.MinInt, 0}, {0, 3, 0}, {math.MaxInt, math.MaxInt, math.MaxInt},
	} {
		b := budget.New(x.of)
		c := b.Split(x.n)
		want(t, "split off", c, x.got, 0, false)
		want(t, "split", b, x.of-x.got, x.got, false)
		if b == c {
			t.Error("the same budget")
		}
	}
}

func TestP2_4_SplitIsApart(t *testing.T) {
	b := budget.New(5)
	c := b.Split(2)
	wantBool(t, "more than was split off", c.Spend(3), false)
	want(t, "ran dry", c, 0, 2, true)
	want(t, "did not", b, 3, 2, false)
	wantBool(t, "goes on", b.Spend(3), true)
	wantBool(t, "ran dry then", b.Spend(1), false)
}

func TestP2_4_SplitOfADryOne(t *testing.T) {
	b := dried(0, 4)
	c := b.Split(3)
	want(t, "split off", c, 3, 0, false)
	want(t, "split", b, 1, -1, true)
	wantBool(t, "what was split off", c.Spend(3), true)
	want(t, "of none", dried(2, 0).Split(1), 0, 0, false)
}

func TestP2_4_Back(t *testing.T) {
	b := budget.New(10)
	c, d := b.Split(3), b.Split(4)
	c.Spend(1)
	b.Back(c, d)
	want(t, "came back", b, 9, 1, false)
	want(t, "the first", c, 0, 3, false)
	want(t, "the second", d, 0, 4, false)
	b.Back(c, d)
	want(t, "came back twice", b, 9, 1, false)
	b.Back()
	b.Back([]*budget.Budget(nil)...)
	want(t, "nothing came back", b, 9, 1, false)
	e := b.Split(2)
	b.Back(e, e)
	want(t, "one, two times", b, 9, 1, false)
}

func TestP2_4_BackPassesOver(t *testing.T) {
	b := budget.New(5)
	b.Spend(2)
	b.Back(b)
	want(t, "itself", b, 3, 2, false)
	b.Back(nil, nil)
	want(t, "nil", b, 3, 2, false)
	b.Back(nil, budget.New(1), b, budget.New(2))
	want(t, "the others", b, 6, -1, false)
	d := dried(1, 2)
	d.Back(d)
	want(t, "itself, dry", d, 2, -1, true)
}

func TestP2_4_BackOfADryOne(t *testing.T) {
	b := budget.New(5)
	d := dried(2, 4)
	b.Back(budget.New(1), d, budget.New(1))
	want(t, "ran dry, and all came back", b, 11, -6, true)
	want(t, "has none left", d, 0, 2, true)
	wantBool(t, "can't be spent", b.Spend(1), false)
	want(t, "is spent", b, 0, 5, true)

	c := budget.New(3)
	c.Back(dried(2, 0))
	want(t, "dry, nothing came", c, 3, 0, true)
	e := budget.New(3)
	dry := dried(0, 0)
	dry.Back(e)
	want(t, "came to a dry one", dry, 3, -3, true)
	want(t, "is not dry by that", e, 0, 3, false)
}

func TestP2_4_BackKeepsItsList(t *testing.T) {
	b, c := budget.New(1), budget.New(2)
	l := []*budget.Budget{c, nil, b}
	b.Back(l...)
	if l[0] != c || l[1] != nil || l[2] != b {
		t.Error("the list was changed")
	}
	c.Back(budget.New(3))
	want(t, "nothing of the list is kept", b, 3, -2, false)
}

func TestP2_5_Nil(t *testing.T) {
	var none *budget.Budget
	for _, n := range odd() {
		wantBool(t, "spend", none.Spend(n), false)
		wantBool(t, "all", none.All(n), false)
		want(t, "split", none.Split(n), 0, 0, false)
	}
	wantBool(t, "all of some", none.All(0, 0), false)
	wantBool(t, "all of none", none.All(), true)
	want(t, "nil", none, 0, 0, true)
	c, d := budget.New(3), dried(1, 2)
	none.Back(c, nil, d, none)
	want(t, "nothing goes back", c, 3, 0, false)
	want(t, "nothing of a dry one", d, 2, -1, true)
}

// model is a budget as the chapter's words have it, in the plainest way.
type model struct {
	all, left int
	dry       bool
}

func (m *model) spend(n int) bool {
	switch {
	case n < 0:
		return false
	case m.dry || n > m.left:
		m.left, m.dry = 0, true
		return false
	}
	m.left -= n
	return true
}

func (m *model) split(n int) *model {
	n = min(max(n, 0), m.left)
	m.left -= n
	return &model{all: n, left: n}
}

func (m *model) back(o *model) {
	if o != m {
		m.left, o.left, m.dry = m.left+o.left, 0, m.dry || o.dry
	}
}

// play makes one of nine moves on three budgets and on their models.
func play(t *testing.T, move int, b []*budget.Budget, m []*model) {
	t.Helper()
	switch i := move % 3; move / 3 {
	case 0:
		wantBool(t, "spend", b[i].Spend(i+1), m[i].spend(i+1))
	case 1:
		j := (i + 1) % 3
		b[j], m[j] = b[i].Split(i), m[i].split(i)
	case 2:
		j := (i + 2) % 3
		b[i].Back(b[j], b[i])
		m[i].back(m[j])
	}
	for i := range b {
		want(t, "after a move", b[i], m[i].left, m[i].all-m[i].left, m[i].dry)
	}
}

// Every row of five moves answers as the model does, and so the same each
// time.
func TestP2_AllRowsOfMoves(t *testing.T) {
	for row := range 9 * 9 * 9 * 9 * 9 {
		b := []*budget.Budget{budget.New(3), budget.New(1), budget.New(-2)}
		m := []*model{{all: 3, left: 3}, {all: 1, left: 1}, {}}
		for range 5 {
			play(t, row%9, b, m)
			row /= 9
		}
		if t.Failed() {
			return
		}
	}
}

// Nothing panics, and what is left is never below 0, at numbers of any size;
// where more comes back than an int holds, Left and Used are still n together.
func TestP1_NumbersOfAnySize(t *testing.T) {
	for _, n := range odd() {
		for _, k := range odd() {
			b := budget.New(n)
			b.Back(budget.New(k), b.Split(k), b.Split(n), nil, b)
			if b.Left() < 0 || b.Left()+b.Used() != max(n, 0) || b.Dry() {
				t.Errorf("%d and %d: left %d, used %d", n, k, b.Left(), b.Used())
			}
			b.All(n, k)
			b.Spend(k)
			if b.Left() < 0 || b.Left()+b.Used() != max(n, 0) {
				t.Errorf("%d and %d, spent: left %d, used %d", n, k, b.Left(), b.Used())
			}
		}
	}
}

// Units don't get lost where more than one spends, splits and gives back.
func TestP2_1_TogetherFromManySides(t *testing.T) {
	b := budget.New(1000)
	var all sync.WaitGroup
	for range 8 {
		all.Go(func() {
			for range 50 {
				c := b.Split(2)
				c.Spend(1)
				b.Spend(1)
				b.Back(c)
			}
		})
	}
	all.Wait()
	want(t, "from many sides", b, 200, 800, false)
}
