package kind_test

import (
	"cmp"
	"iter"
	"math"
	"slices"
	"strconv"
	"strings"
	"testing"
	"unsafe"

	"filigree/api"
	"filigree/kind"
)

// The calls keep the signatures that the chapter lists.
var (
	_ func(kind.Type, int) bool                     = kind.Right
	_ func(kind.Type) int                           = kind.Size
	_ func(kind.Type) int                           = kind.Order
	_ func(kind.Type) int                           = kind.Depth
	_ func(kind.Type, kind.Type) bool               = kind.Equal
	_ func(kind.Type, kind.Type) int                = kind.Compare
	_ func(int, ...kind.Type) kind.Type             = kind.Of
	_ func(kind.Type, ...kind.Type) kind.Type       = kind.Arrow
	_ func(kind.Type, int) (kind.Type, api.Errno)   = kind.Rest
	_ func(kind.Type, []string) (string, api.Errno) = kind.Text
	_ func(kind.Type) iter.Seq2[int, kind.Type]     = kind.Each
	_ func(...kind.Type) []int                      = kind.Bases
	_                                               = kind.Type{Args: []kind.Type{}, Base: 0}
)

// levels: as deep as the document lets anything be.
const levels = 1 << 16

// of makes a type without the package's help.
func of(base int, args ...kind.Type) kind.Type { return kind.Type{Args: args, Base: base} }

func a() kind.Type { return of(0) }
func b() kind.Type { return of(1) }

// odd: numbers of any size.
func odd() []int {
	return []int{math.MinInt, math.MinInt + 1, math.MinInt32, -7, -1, 0, 1, 2, 3, 4, 5, 6, 7, math.MaxInt32, math.MaxInt - 1, math.MaxInt}
}

// chain: a type of that depth, of one argument at each level.
func chain(depth, base int) kind.Type {
	t := of(base)
	for range depth - 1 {
		t = of(base, t)
	}
	return t
}

// wide: a type of so many arguments, base types.
func wide(n, base int) kind.Type {
	return of(base, slices.Repeat([]kind.Type{of(base)}, n)...)
}

// doubled: a type that has one of less depth twice, in the same memory: it
// takes little memory, and is of a size of 2 to the depth, less 1.
func doubled(depth int) kind.Type {
	t := a()
	for range depth - 1 {
		t = of(0, t, t)
	}
	return t
}

// lists: all lists of types of so many types in all, of these bases.
func lists(size int, bases ...int) [][]kind.Type {
	if size == 0 {
		return [][]kind.Type{nil}
	}
	var all [][]kind.Type
	for first := 1; first <= size; first++ {
		for _, t := range ofSize(first, bases...) {
			for _, rest := range lists(size-first, bases...) {
				all = append(all, append([]kind.Type{t}, rest...))
			}
		}
	}
	return all
}

// ofSize: all types of that size, of these bases.
func ofSize(size int, bases ...int) []kind.Type {
	var all []kind.Type
	for _, args := range lists(size-1, bases...) {
		for _, base := range bases {
			all = append(all, of(base, args...))
		}
	}
	return all
}

// upTo: all types of at most that size, of these bases.
func upTo(size int, bases ...int) []kind.Type {
	var all []kind.Type
	for n := 1; n <= size; n++ {
		all = append(all, ofSize(n, bases...)...)
	}
	return all
}

// twin: t in other memory, without the package's help.
func twin(t kind.Type) kind.Type {
	c := kind.Type{Base: t.Base}
	for _, x := range t.Args {
		c.Args = append(c.Args, twin(x))
	}
	return c
}

// spoil changes all of t that it shares with others of the same memory.
func spoil(t kind.Type) {
	for i := range t.Args {
		spoil(t.Args[i])
		t.Args[i] = of(-99, of(-98))
	}
}

// code: t, told so that no two types are told the same; it doesn't go through
// the package.
func code(t kind.Type) string {
	var s strings.Builder
	var put func(kind.Type)
	put = func(t kind.Type) {
		s.WriteString("[")
		for _, x := range t.Args {
			put(x)
		}
		s.WriteString(strconv.Itoa(t.Base) + "]")
	}
	put(t)
	return s.String()
}

func same(a, b kind.Type) bool { return code(a) == code(b) }

func sizeOf(t kind.Type) int {
	n := 1
	for _, x := range t.Args {
		n += sizeOf(x)
	}
	return n
}

func orderOf(t kind.Type) int {
	if len(t.Args) == 0 {
		return 0
	}
	greatest := 0
	for _, x := range t.Args {
		greatest = max(greatest, orderOf(x))
	}
	return 1 + greatest
}

func depthOf(t kind.Type) int {
	if len(t.Args) == 0 {
		return 1
	}
	greatest := 0
	for _, x := range t.Args {
		greatest = max(greatest, depthOf(x))
	}
	return 1 + greatest
}

// order: as the chapter words Compare, with sizes that are counted anew.
func order(a, b kind.Type) int {
	if c := cmp.Compare(sizeOf(a), sizeOf(b)); c != 0 {
		return c
	}
	if c := cmp.Compare(len(a.Args), len(b.Args)); c != 0 {
		return c
	}
	for i := range a.Args {
		if c := order(a.Args[i], b.Args[i]); c != 0 {
			return c
		}
	}
	return cmp.Compare(a.Base, b.Base)
}

// textOf: as the chapter words a type's text.
func textOf(t kind.Type, names []string) string {
	var parts []string
	for _, x := range t.Args {
		part := textOf(x, names)
		if len(x.Args) > 0 {
			part = "(" + part + ")"
		}
		parts = append(parts, part)
	}
	return strings.Join(append(parts, names[t.Base]), " -> ")
}

func TestP4_1RightLooksAtAllBases(t *testing.T) {
	for _, c := range []struct {
		t     kind.Type
		bases int
		want  bool
	}{
		{of(0), 1, true},
		{of(0), 0, false},
		{of(0), -1, false},
		{of(1), 1, false},
		{of(1), 2, true},
		{of(-1), 5, false},
		{of(-1), 0, false},
		{of(-2), -1, false},
		{of(0, of(1)), 2, true},
		{of(0, of(1)), 1, false},
		{of(1, of(0)), 1, false},
		{of(0, of(-1)), 1, false},
		{of(-1, of(0)), 1, false},
		{of(0, of(0), of(0, of(0), of(3))), 3, false},
		{of(0, of(0), of(0, of(0), of(3))), 4, true},
		{of(0, of(0), of(3, of(0), of(0)), of(0)), 3, false},
		{of(math.MaxInt), math.MaxInt, false},
		{of(math.MaxInt - 1), math.MaxInt, true},
		{of(math.MinInt), math.MaxInt, false},
		{of(math.MinInt), math.MinInt, false},
	} {
		if got := kind.Right(c.t, c.bases); got != c.want {
			t.Errorf("Right(%s, %d): %t", code(c.t), c.bases, got)
		}
	}
	for _, x := range upTo(5, -1, 0, 2) {
		least, greatest := slices.Min(basesOf(x)), slices.Max(basesOf(x))
		for bases := -1; bases <= 4; bases++ {
			if got := kind.Right(x, bases); got != (least >= 0 && greatest < bases) {
				t.Fatalf("Right(%s, %d): %t", code(x), bases, got)
			}
		}
	}
}

// basesOf: the bases of t and all types within, as they come.
func basesOf(t kind.Type) []int {
	l := []int{t.Base}
	for _, x := range t.Args {
		l = append(l, basesOf(x)...)
	}
	return l
}

func TestP4_1RightKeepsToTheLimits(t *testing.T) {
	nine := of(0, slices.Repeat([]kind.Type{wide(8, 0)}, 111)...) // 1 and 111 times 9
	for name, c := range map[string]struct {
		t    kind.Type
		want bool
	}{
		"size 1000, wide":           {wide(api.MaxItems-1, 0), true},
		"size 1001, wide":           {wide(api.MaxItems, 0), false},
		"size 1000, in rows":        {nine, true},
		"size 1001, in rows":        {of(0, append(slices.Clone(nine.Args), a())...), false},
		"size 1001, the last grown": {of(0, append(slices.Clone(nine.Args[1:]), wide(9, 0))...), false},
		"depth 60":                  {chain(api.MaxNest, 0), true},
		"depth 61":                  {chain(api.MaxNest+1, 0), false},
		"depth 60, the last":        {of(0, a(), chain(api.MaxNest-1, 0)), true},
		"depth 61, the last":        {of(0, a(), chain(api.MaxNest, 0)), false},
		"depth 61, the first":       {of(0, chain(api.MaxNest, 0), a()), false},
		"size 1000 and depth 60":    {of(0, append(slices.Clone(wide(api.MaxItems-api.MaxNest, 0).Args), chain(api.MaxNest-1, 0))...), true},
		"many levels":               {chain(levels, 0), false},
		"very many":                 {wide(1<<20, 0), false},
		"more than can be counted":  {doubled(api.MaxNest), false},
	} {
		if got := kind.Right(c.t, 1); got != c.want {
			t.Errorf("%s: %t", name, got)
		}
	}
}

func TestP4_1SizeOrderDepth(t *testing.T) {
	for _, c := range []struct {
		t                  kind.Type
		size, order, depth int
	}{
		{a(), 1, 0, 1},
		{of(-5), 1, 0, 1},
		{of(math.MaxInt), 1, 0, 1},
		{of(0, []kind.Type{}...), 1, 0, 1},
		{of(0, a()), 2, 1, 2},
		{of(0, a(), a()), 3, 1, 2},
		{of(1, a(), of(1, a())), 4, 2, 3},
		{of(1, of(1, a()), a()), 4, 2, 3},
		{of(0, of(0, of(0, a())), of(0, a())), 6, 3, 4},
		{wide(api.MaxItems, 0), api.MaxItems + 1, 1, 2},
		{chain(api.MaxNest+1, 7), api.MaxNest + 1, api.MaxNest, api.MaxNest + 1},
		{chain(levels, -1), levels, levels - 1, levels},
		{doubled(18), 1<<18 - 1, 17, 18},
	} {
		if size, order, depth := kind.Size(c.t), kind.Order(c.t), kind.Depth(c.t); size != c.size || order != c.order || depth != c.depth {
			t.Errorf("size %d, order %d, depth %d; want %d, %d, %d", size, order, depth, c.size, c.order, c.depth)
		}
	}
	for _, x := range upTo(6, 0, -3) {
		if kind.Size(x) != sizeOf(x) || kind.Order(x) != orderOf(x) || kind.Depth(x) != depthOf(x) {
			t.Fatalf("%s: size %d, order %d, depth %d", code(x), kind.Size(x), kind.Order(x), kind.Depth(x))
		}
	}
}

func TestP4_1Equal(t *testing.T) {
	all := upTo(4, 0, 1, -1)
	for _, x := range all {
		for _, y := range all {
			if got := kind.Equal(x, y); got != same(x, y) {
				t.Fatalf("Equal(%s, %s): %t", code(x), code(y), got)
			}
		}
		if !kind.Equal(x, twin(x)) {
			t.Fatalf("%s isn't as itself in other memory", code(x))
		}
	}
	none, empty := of(3, kind.Type{Base: 2}), of(3, kind.Type{Base: 2, Args: []kind.Type{}})
	if !kind.Equal(none, empty) || !kind.Equal(empty, none) || kind.Compare(none, empty) != 0 || kind.Compare(empty, none) != 0 {
		t.Error("nil and empty aren't the same")
	}
	if x, y := chain(levels, 1), chain(levels, 1); !kind.Equal(x, y) || kind.Equal(x, chain(levels+1, 1)) {
		t.Error("of many levels")
	}
}

func TestP4_1CompareByOneAfterAnother(t *testing.T) {
	for name, c := range map[string]struct{ less, more kind.Type }{
		"by size":                           {of(9), of(0, a())},
		"by size, ahead of how many":        {of(0, a(), a()), of(0, of(0, of(0, a())))},
		"by size, ahead of the arguments":   {of(9, of(9)), of(0, a(), a())},
		"by how many arguments":             {of(9, of(9, of(9))), of(0, a(), a())},
		"by the first argument":             {of(9, a(), of(9)), of(0, b(), a())},
		"by the second argument":            {of(9, a(), a()), of(0, a(), b())},
		"by the first argument's size":      {of(9, of(9), of(9, of(9))), of(0, of(0, a()), a())},
		"by how many the first one has":     {of(9, of(9, of(9, of(9))), of(9)), of(0, of(0, a(), a()), a())},
		"by the first one's, ahead of base": {of(0, of(9, a())), of(0, of(0, b()))},
		"by the first one's base":           {of(9, of(0, a())), of(0, of(1, a()))},
		"by the second one's size":          {of(9, chain(2, 0), wide(2, 9), chain(2, 9)), of(0, chain(2, 0), chain(4, 0), a())},
		"by the base":                       {of(0, a()), of(1, a())},
		"by the base, of none":              {a(), b()},
		"by the base, below 0":              {of(-2), of(-1)},
		"by the base, of any size":          {of(math.MinInt), of(math.MaxInt)},
		"by the base, far apart":            {of(math.MinInt, a()), of(1, a())},
		"by the last argument":              {wide(700, 0), of(0, append(slices.Clone(wide(699, 0).Args), b())...)},
		"by the innermost":                  {of(0, chain(levels, 0), a()), of(0, chain(levels, 0), b())},
	} {
		if got := kind.Compare(c.less, c.more); got != -1 {
			t.Errorf("%s: %d; want -1", name, got)
		}
		if got := kind.Compare(c.more, c.less); got != 1 {
			t.Errorf("%s, the other way: %d; want 1", name, got)
		}
		if kind.Compare(c.less, twin(c.less)) != 0 || kind.Compare(c.more, twin(c.more)) != 0 {
			t.Errorf("%s: not the same as itself", name)
		}
	}
}

func TestP4_1CompareAllSmallTypes(t *testing.T) {
	for _, all := range [][]kind.Type{upTo(4, 0, 1), upTo(3, math.MinInt, -1, math.MaxInt), upTo(8, 0)} {
		for _, x := range all {
			for _, y := range all {
				got := kind.Compare(x, y)
				if got != order(x, y) || (got == 0) != same(x, y) {
					t.Fatalf("Compare(%s, %s): %d; want %d", code(x), code(y), got, order(x, y))
				}
			}
		}
	}
}

func TestP4_2Of(t *testing.T) {
	for _, base := range odd() {
		for _, args := range [][]kind.Type{nil, {}, {a()}, {b(), a()}, {of(-4, b()), of(math.MaxInt), chain(70, 2)}} {
			got := kind.Of(base, args...)
			if got.Base != base || !slices.EqualFunc(got.Args, args, same) {
				t.Errorf("Of(%d, %d of them): %s", base, len(args), code(got))
			}
		}
	}
	if got := kind.Of(1, chain(levels, 3)); kind.Size(got) != levels+1 {
		t.Error("of many levels", kind.Size(got))
	}
}

func TestP4_2Arrow(t *testing.T) {
	for _, c := range []struct {
		t    kind.Type
		args []kind.Type
		want kind.Type
	}{
		{b(), nil, b()},
		{b(), []kind.Type{a()}, of(1, a())},
		{b(), []kind.Type{a(), of(1, a())}, of(1, a(), of(1, a()))},
		{of(1, a()), nil, of(1, a())},
		{of(1, a()), []kind.Type{}, of(1, a())},
		{of(1, a()), []kind.Type{b()}, of(1, b(), a())},
		{of(1, of(2), of(3)), []kind.Type{of(4), of(5), of(6)}, of(1, of(4), of(5), of(6), of(2), of(3))},
		{of(-1, of(-2)), []kind.Type{of(math.MinInt)}, of(-1, of(math.MinInt), of(-2))},
	} {
		if got := kind.Arrow(c.t, c.args...); !same(got, c.want) {
			t.Errorf("Arrow(%s, %d of them): %s; want %s", code(c.t), len(c.args), code(got), code(c.want))
		}
	}
}

func TestP4_2Rest(t *testing.T) {
	three := of(7, a(), of(1, a()), b())
	for _, c := range []struct {
		t    kind.Type
		n    int
		want kind.Type
	}{
		{a(), 0, a()},
		{three, 0, three},
		{three, 1, of(7, of(1, a()), b())},
		{three, 2, of(7, b())},
		{three, 3, of(7)},
		{of(-3, of(-4)), 1, of(-3)},
	} {
		if got, e := kind.Rest(c.t, c.n); e != api.OK || !same(got, c.want) {
			t.Errorf("Rest(%s, %d): %s, %d; want %s", code(c.t), c.n, code(got), e, code(c.want))
		}
	}
	for _, x := range []kind.Type{a(), of(5, a()), three} {
		for _, n := range append(odd(), len(x.Args)+1) {
			if n >= 0 && n <= len(x.Args) {
				continue
			}
			if got, e := kind.Rest(x, n); e != api.ErrArg || got.Base != 0 || len(got.Args) != 0 {
				t.Errorf("Rest(%s, %d): %s, %d; want ErrArg", code(x), n, code(got), e)
			}
		}
	}
}

func TestP4_2ArrowUndoesRest(t *testing.T) {
	for _, x := range upTo(5, 0, 4) {
		for n := range len(x.Args) + 1 {
			rest, e := kind.Rest(x, n)
			if e != api.OK || !same(kind.Arrow(rest, x.Args[:n]...), x) {
				t.Fatalf("%s, %d: %s, %d", code(x), n, code(rest), e)
			}
		}
	}
}

func TestP4_3Text(t *testing.T) {
	names := []string{"a", "b", "nat", ""}
	for _, c := range []struct {
		t    kind.Type
		want string
	}{
		{a(), "a"},
		{of(2), "nat"},
		{of(3), ""},
		{of(1, a()), "a -> b"},
		{of(1, a(), a()), "a -> a -> b"},
		{of(1, of(1, a())), "(a -> b) -> b"},
		{of(1, a(), of(1, a())), "a -> (a -> b) -> b"},
		{of(1, of(1, a()), a()), "(a -> b) -> a -> b"},
		{of(0, of(1, of(2, a(), b())), of(2)), "((a -> b -> nat) -> b) -> nat -> a"},
		{of(3, of(3, of(3)), a()), "( -> ) -> a -> "},
	} {
		if got, e := kind.Text(c.t, names); e != api.OK || got != c.want {
			t.Errorf("Text(%s): %q, %d; want %q", code(c.t), got, e, c.want)
		}
	}
	for _, x := range upTo(5, 0, 2) {
		if got, e := kind.Text(x, names); e != api.OK || got != textOf(x, names) {
			t.Fatalf("Text(%s): %q, %d; want %q", code(x), got, e, textOf(x, names))
		}
	}
}

func TestP4_3TextAtTheLimits(t *testing.T) {
	names := []string{"x -> y", "x -> y"}
	for name, c := range map[string]struct {
		t    kind.Type
		want string
	}{
		"wide":         {wide(api.MaxItems-1, 1), strings.Repeat("x -> y -> ", api.MaxItems-1) + "x -> y"},
		"deep":         {chain(api.MaxNest, 0), strings.Repeat("(", api.MaxNest-2) + "x -> y -> x -> y" + strings.Repeat(") -> x -> y", api.MaxNest-2)},
		"the last one": {b(), "x -> y"},
	} {
		if got, e := kind.Text(c.t, names); e != api.OK || got != c.want {
			t.Errorf("%s: %.60q, %d; want %.60q", name, got, e, c.want)
		}
	}
}

func TestP4_3TextRefusesWhatIsNotRight(t *testing.T) {
	for name, c := range map[string]struct {
		t     kind.Type
		names []string
	}{
		"no names":              {a(), nil},
		"an empty list":         {a(), []string{}},
		"a base too many":       {b(), []string{"a"}},
		"within":                {of(0, a(), of(0, b())), []string{"a"}},
		"below 0":               {of(-1), []string{"a"}},
		"below 0, within":       {of(0, of(0, of(-1))), []string{"a"}},
		"far outside":           {of(math.MaxInt), []string{"a"}},
		"far below":             {of(math.MinInt, a()), []string{"a"}},
		"too wide":              {wide(api.MaxItems, 0), []string{"a"}},
		"too deep":              {chain(api.MaxNest+1, 0), []string{"a"}},
		"much too deep":         {chain(levels, 0), []string{"a"}},
		"more than can be told": {doubled(api.MaxNest), []string{"a"}},
	} {
		if got, e := kind.Text(c.t, c.names); e != api.ErrArg || got != "" {
			t.Errorf("%s: %.60q, %d; want ErrArg", name, got, e)
		}
	}
}

// told is one that Each gives.
type told struct {
	depth int
	code  string
}

// toldOf: what Each gives, as the chapter words it.
func toldOf(t kind.Type, depth int) []told {
	l := []told{{depth, code(t)}}
	for _, x := range t.Args {
		l = append(l, toldOf(x, depth+1)...)
	}
	return l
}

// take: the first n that s gives, or all if they are less.
func take(s iter.Seq2[int, kind.Type], n int) []told {
	var l []told
	for depth, x := range s {
		if len(l) == n {
			break
		}
		l = append(l, told{depth, code(x)})
	}
	return l
}

func TestP4_4Each(t *testing.T) {
	f := of(1, a(), of(2, of(3), of(4)), of(5))
	want := []told{{1, code(f)}, {2, code(a())}, {2, code(of(2, of(3), of(4)))}, {3, code(of(3))}, {3, code(of(4))}, {2, code(of(5))}}
	if got := take(kind.Each(f), 99); !slices.Equal(got, want) {
		t.Error(got)
	}
	for _, x := range append(upTo(5, 0, -1), wide(1500, 3), chain(300, 2)) {
		if got := take(kind.Each(x), math.MaxInt); !slices.Equal(got, toldOf(x, 1)) {
			t.Fatalf("Each(%.60s): %.99v", code(x), got)
		}
	}
}

func TestP4_4EachMayBeLeftAnywhere(t *testing.T) {
	for _, x := range append(upTo(5, 0, 1), of(0, wide(3, 1), chain(4, 2), of(3, of(4), wide(2, 5)))) {
		all := toldOf(x, 1)
		s := kind.Each(x)
		for n := range len(all) {
			if got := take(s, n); !slices.Equal(got, all[:n]) {
				t.Fatalf("Each(%s), left behind %d: %v", code(x), n, got)
			}
		}
		if got := take(s, len(all)+1); !slices.Equal(got, all) {
			t.Fatalf("Each(%s), once more: %v", code(x), got)
		}
		// It asks no more, once it was told to stop.
		calls := 0
		s(func(int, kind.Type) bool { calls++; return false })
		if calls != 1 {
			t.Fatalf("Each(%s) goes on: %d", code(x), calls)
		}
	}
	for n := range 6 {
		calls := 0
		kind.Each(of(1, a(), of(2, of(3), of(4)), of(5)))(func(int, kind.Type) bool { calls++; return calls <= n })
		if calls != min(n+1, 6) {
			t.Errorf("left at %d: %d calls", n, calls)
		}
	}
}

func TestP4_4EachWithinEach(t *testing.T) {
	s := kind.Each(of(1, a(), of(1, a())))
	n := 0
	for d := range s {
		for e, x := range s {
			if n++; d == 2 && e == 3 && !same(x, a()) {
				t.Error(code(x))
			}
		}
	}
	if n != 16 {
		t.Error(n)
	}
}

func TestP4_4Bases(t *testing.T) {
	for name, c := range map[string]struct {
		l    []kind.Type
		want []int
	}{
		"none":            {nil, nil},
		"an empty list":   {[]kind.Type{}, nil},
		"one":             {[]kind.Type{of(4)}, []int{4}},
		"within":          {[]kind.Type{of(4, of(2, of(3)), of(1))}, []int{1, 2, 3, 4}},
		"each once":       {[]kind.Type{of(2, of(0), of(2, of(0))), of(0), of(2)}, []int{0, 2}},
		"rising":          {[]kind.Type{of(9), of(5), of(7, of(6)), of(1)}, []int{1, 5, 6, 7, 9}},
		"of any size":     {[]kind.Type{of(math.MaxInt), of(0, of(math.MinInt)), of(-1)}, []int{math.MinInt, -1, 0, math.MaxInt}},
		"of many":         {[]kind.Type{wide(api.MaxItems, 3), chain(levels, 2)}, []int{2, 3}},
		"the same memory": {[]kind.Type{doubled(12), doubled(13)}, []int{0}},
	} {
		if got := kind.Bases(c.l...); !slices.Equal(got, c.want) {
			t.Errorf("%s: %v; want %v", name, got, c.want)
		}
	}
	all := upTo(3, 0, -2, 5)
	for _, x := range all {
		for _, y := range all {
			want := append(basesOf(x), basesOf(y)...)
			slices.Sort(want)
			if got := kind.Bases(x, y); !slices.Equal(got, slices.Compact(want)) {
				t.Fatalf("Bases(%s, %s): %v; want %v", code(x), code(y), got, want)
			}
		}
	}
}

func TestP4_5ArgumentsAreNotChanged(t *testing.T) {
	args := []kind.Type{of(3, of(2)), of(1), of(1, of(9), of(0, of(4)))}
	whole, other, names := of(5, args...), of(5, twin(of(0, args...)).Args...), []string{"a", "b", "c", "d", "e", "f", "g", "h", "i", "j"}
	wantCode, wantNames := code(whole), strings.Join(names, ",")
	kind.Right(whole, 10)
	kind.Size(whole)
	kind.Order(whole)
	kind.Depth(whole)
	kind.Equal(whole, other)
	kind.Compare(whole, other)
	kind.Of(5, args...)
	kind.Arrow(whole, args...)
	kind.Rest(whole, 1)
	kind.Text(whole, names)
	take(kind.Each(whole), 4)
	kind.Bases(args...)
	kind.Bases(whole, other)
	if code(whole) != wantCode || code(other) != wantCode || strings.Join(names, ",") != wantNames {
		t.Error(code(whole), code(other), names)
	}
	// Nothing is put into the room behind a list either.
	room := append(make([]kind.Type, 0, 8), a(), b())
	kind.Arrow(of(7, of(8)), room...)
	kind.Arrow(kind.Type{Args: room, Base: 7}, of(8), of(9))
	if behind := room[:8][2:]; !slices.EqualFunc(behind, make([]kind.Type, 6), same) {
		t.Error("behind the list", behind)
	}
}

// typeMakers: each call that tells a type of types, on the ones handed in.
func typeMakers() map[string]func(x, y kind.Type) kind.Type {
	return map[string]func(x, y kind.Type) kind.Type{
		"Of":          func(x, y kind.Type) kind.Type { return kind.Of(6, x, y) },
		"Of the list": func(x, y kind.Type) kind.Type { return kind.Of(6, x.Args...) },
		"Arrow":       func(x, y kind.Type) kind.Type { return kind.Arrow(x, y, y) },
		"Arrow none":  func(x, y kind.Type) kind.Type { return kind.Arrow(x) },
		"Arrow list":  func(x, y kind.Type) kind.Type { return kind.Arrow(of(1), x.Args...) },
		"Rest 0":      func(x, y kind.Type) kind.Type { r, _ := kind.Rest(x, 0); return r },
		"Rest 1":      func(x, y kind.Type) kind.Type { r, _ := kind.Rest(x, 1); return r },
		"Each, first": func(x, y kind.Type) kind.Type {
			for _, z := range kind.Each(x) {
				return z
			}
			return kind.Type{}
		},
		"Each, last": func(x, y kind.Type) kind.Type {
			var last kind.Type
			for _, z := range kind.Each(x) {
				if len(z.Args) > 0 {
					last = z
				}
			}
			return last
		},
	}
}

func TestP4_5AnswersAreNewMemory(t *testing.T) {
	for name, make := range typeMakers() {
		x, y := of(3, of(2, of(1)), of(4, of(5, of(6)))), of(7, of(8, of(9)))
		wantX, wantY := code(x), code(y)
		want := code(make(twin(x), twin(y)))
		spoil(make(x, y))
		if code(x) != wantX || code(y) != wantY {
			t.Errorf("%s: who changes the answer changes the arguments", name)
		}
		got := make(x, y)
		spoil(x)
		spoil(y)
		if code(got) != want {
			t.Errorf("%s: who changes the arguments changes the answer", name)
		}
	}
}

func TestP4_5NoTwoListsOfAnAnswerShareMemory(t *testing.T) {
	one := of(1, of(2, of(3)))
	for name, make := range map[string]func() kind.Type{
		"Of":    func() kind.Type { return kind.Of(0, one, one) },
		"Arrow": func() kind.Type { return kind.Arrow(of(0, one), one) },
		"Rest":  func() kind.Type { r, _ := kind.Rest(of(0, a(), one, one), 1); return r },
		"Each": func() kind.Type {
			for _, x := range kind.Each(of(0, one, one)) {
				return x
			}
			return kind.Type{}
		},
	} {
		got := make()
		spoil(got.Args[0])
		if !same(got.Args[1], one) {
			t.Errorf("%s: two arguments are changed together: %s", name, code(got.Args[1]))
		}
		// A list that grows doesn't run into another one.
		got = make()
		_ = append(got.Args[0].Args, of(7), of(8), of(9))
		_ = append(got.Args[0].Args[0].Args, of(7), of(8), of(9))
		if !same(got, of(0, one, one)) {
			t.Errorf("%s: a list runs into another one: %s", name, code(got))
		}
	}
}

func TestP4_5EachGivesNewMemoryEachTime(t *testing.T) {
	x := of(3, of(2, of(1)), of(4, of(5, of(6)), of(7)))
	want := toldOf(x, 1)
	s := kind.Each(x)
	spoil(x)
	for range 2 {
		var got []told
		for depth, y := range s {
			got = append(got, told{depth, code(y)})
			spoil(y)
		}
		if !slices.Equal(got, want) {
			t.Error(got)
		}
	}
}

func TestP4_5ATextIsNewMemory(t *testing.T) {
	bytes := []byte("abcdef")
	names := []string{unsafe.String(&bytes[0], len(bytes))}
	one, _ := kind.Text(a(), names)
	two, _ := kind.Text(of(0, a()), names)
	clear(bytes)
	names[0] = "changed"
	if one != "abcdef" || two != "abcdef -> abcdef" {
		t.Errorf("%q, %q", one, two)
	}
}

func TestP4_5BasesAreNewMemory(t *testing.T) {
	x := of(3, of(2))
	l := kind.Bases(x)
	l[0], l[1] = 8, 9
	if again := kind.Bases(x); !slices.Equal(again, []int{2, 3}) || !same(x, of(3, of(2))) {
		t.Error(again)
	}
}

// P1: no argument makes a call panic, and beside an error stand zero values.
func TestP1NoCallPanics(t *testing.T) {
	types := []kind.Type{{}, {Args: []kind.Type{}}, {Args: []kind.Type{{}, {}}}, wide(1200, -1), chain(levels, math.MaxInt), doubled(14)}
	for _, n := range odd() {
		types = append(types, of(n), of(0, of(n)), of(n, of(1, of(n))))
	}
	for _, x := range types {
		kind.Size(x)
		kind.Order(x)
		kind.Depth(x)
		kind.Bases(x, x)
		kind.Arrow(x, x, x)
		for range kind.Each(x) {
			break
		}
		for _, n := range odd() {
			kind.Right(x, n)
			kind.Of(n, x)
			if r, e := kind.Rest(x, n); e != api.OK && (e != api.ErrArg || r.Base != 0 || len(r.Args) != 0) {
				t.Errorf("Rest of %d: %d", n, e)
			}
		}
		for _, names := range [][]string{nil, {}, {""}, {"a", "b"}, make([]string, 2000)} {
			if s, e := kind.Text(x, names); e != api.OK && (e != api.ErrArg || s != "") {
				t.Errorf("Text: %q, %d", s, e)
			}
		}
		for _, y := range types {
			if kind.Equal(x, y) != (kind.Compare(x, y) == 0) {
				t.Error("Equal and Compare don't say the same")
			}
		}
	}
}

// P2: a call answers the same each time, whatever was called between.
func TestP2TheSameAnswers(t *testing.T) {
	names := []string{"a", "b"}
	var first []string
	for round := range 3 {
		var got []string
		for _, x := range upTo(4, 0, 1) {
			s, _ := kind.Text(x, names)
			r, _ := kind.Rest(x, len(x.Args)/2)
			got = append(got, s, code(r), code(kind.Arrow(x, r)), code(kind.Of(kind.Size(x), r)))
			for depth, y := range kind.Each(x) {
				got = append(got, code(kind.Of(depth, y)))
			}
			for _, base := range kind.Bases(x, r) {
				got = append(got, names[base])
			}
		}
		if round == 0 {
			first = got
		}
		if !slices.Equal(got, first) {
			t.Fatalf("round %d", round)
		}
	}
}
