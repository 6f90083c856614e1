package vocab_test

import (
	"math"
	"regexp"
	"slices"
	"strconv"
	"strings"
	"sync"
	"testing"
	"unsafe"

	"filigree/api"
	"filigree/kind"
	"filigree/vocab"
)

// The calls keep the signatures that the chapter lists.
var (
	_ func(vocab.Table) api.Errno                    = vocab.Check
	_ func(vocab.Table) (*vocab.Index, api.Errno)    = vocab.New
	_ func(*vocab.Index) vocab.Table                 = (*vocab.Index).Table
	_ func(*vocab.Index, string) (int, api.Errno)    = (*vocab.Index).Base
	_ func(*vocab.Index, string) (int, api.Errno)    = (*vocab.Index).Const
	_ func(*vocab.Index, int) (kind.Type, api.Errno) = (*vocab.Index).Type
	_ func(*vocab.Index, int) (string, api.Errno)    = (*vocab.Index).Name
	_ func(*vocab.Index) []kind.Type                 = (*vocab.Index).Types
	_ func(*vocab.Index, ...string) bool             = (*vocab.Index).Has
	_ func(*vocab.Index, string) (string, api.Errno) = (*vocab.Index).Fresh
	_                                                = vocab.Const{Name: "", Type: kind.Type{}}
	_                                                = vocab.Table{Bases: []string{}, Consts: []vocab.Const{}}
	_                                                = &vocab.Index{}
)

// of makes a type without the help of package kind.
func of(base int, args ...kind.Type) kind.Type { return kind.Type{Args: args, Base: base} }

func constant(name string, t kind.Type) vocab.Const { return vocab.Const{Name: name, Type: t} }

func bases(names ...string) vocab.Table { return vocab.Table{Bases: names} }

// with: a table of these bases, and these constants behind those of t.
func with(t vocab.Table, l ...vocab.Const) vocab.Table {
	return vocab.Table{Bases: t.Bases, Consts: slices.Concat(t.Consts, l)}
}

// natural: the table of the chapter's example.
func natural() vocab.Table {
	return with(bases("nat"), constant("z", of(0)), constant("s", of(0, of(0))))
}

// rich: a table of three bases, and of constants of types with types within.
func rich() vocab.Table {
	return with(bases("a", "b'", "C_1"),
		constant("f", of(2, of(0, of(1)), of(1, of(0, of(2)), of(2)))),
		constant("x", of(1)),
		constant("G", of(0, of(0), of(1))))
}

// named: words that are no two the same, of that beginning.
func named(n int, word string) []string {
	var l []string
	for i := range n {
		l = append(l, word+strconv.Itoa(i))
	}
	return l
}

// constants: constants of these names, of the first base.
func constants(names ...string) []vocab.Const {
	var l []vocab.Const
	for _, name := range names {
		l = append(l, constant(name, of(0)))
	}
	return l
}

// chain: a type of that depth, of one argument at each level.
func chain(depth int) kind.Type {
	t := of(0)
	for range depth - 1 {
		t = of(0, t)
	}
	return t
}

// wide: a type of so many arguments, base types.
func wide(n int) kind.Type { return of(0, slices.Repeat([]kind.Type{of(0)}, n)...) }

// odd: numbers of any size.
func odd() []int {
	return []int{math.MinInt, math.MinInt + 1, math.MinInt32, -7, -1, 0, 1, 2, 3, 4, 5, 6, 7, math.MaxInt32, math.MaxInt - 1, math.MaxInt}
}

// wrong: texts that are no words.
func wrong() []string {
	return []string{"", " ", "1", "1a", "_", "_a", "'", "'a", "a b", " a", "a ", "a-b", "a.", "->", "(", "a\x00", "a\n", "\u00e9", "a\u00e9", "\xff", "#a", strings.Repeat("a", 31), strings.Repeat("a", 40)}
}

// words: texts that are words.
func words() []string {
	return []string{"a", "Z", "a1", "a_", "a'", "aB_'9", "x0''", strings.Repeat("a", 30), strings.Repeat("Q'", 15)}
}

// codeType: t, told so that no two types are told the same.
func codeType(t kind.Type) string {
	s := "["
	for _, x := range t.Args {
		s += codeType(x)
	}
	return s + strconv.Itoa(t.Base) + "]"
}

func codeTypes(l []kind.Type) string {
	s := ""
	for _, t := range l {
		s += codeType(t)
	}
	return s
}

// code: t, told so that no two tables are told the same.
func code(t vocab.Table) string {
	s := ""
	for _, name := range t.Bases {
		s += strconv.Quote(name)
	}
	for _, c := range t.Consts {
		s += ";" + strconv.Quote(c.Name) + codeType(c.Type)
	}
	return s
}

// spoilType changes all of t that it shares with others of the same memory.
func spoilType(t kind.Type) {
	for i := range t.Args {
		spoilType(t.Args[i])
		t.Args[i] = of(-99, of(-98))
	}
}

// spoil changes all of t that it shares with others of the same memory.
func spoil(t vocab.Table) {
	for i := range t.Bases {
		t.Bases[i] = "spoilt"
	}
	for i := range t.Consts {
		spoilType(t.Consts[i].Type)
		t.Consts[i] = constant("spoilt", of(-97))
	}
}

func must(t *testing.T, table vocab.Table) *vocab.Index {
	t.Helper()
	x, e := vocab.New(table)
	if e != api.OK || x == nil {
		t.Fatalf("New(%.80s): %v, %d", code(table), x, e)
	}
	return x
}

// check holds Check and New of a table against the error that is wanted.
func check(t *testing.T, table vocab.Table, want api.Errno) {
	t.Helper()
	if e := vocab.Check(table); e != want {
		t.Errorf("Check(%.80s): %d, want %d", code(table), e, want)
	}
	x, e := vocab.New(table)
	if e != want || (x == nil) != (want != api.OK) {
		t.Errorf("New(%.80s): %v, %d, want %d", code(table), x, e, want)
	}
}

func TestP5_1RightTables(t *testing.T) {
	check(t, vocab.Table{}, api.OK)
	check(t, vocab.Table{Bases: []string{}, Consts: []vocab.Const{}}, api.OK)
	check(t, bases("a"), api.OK)
	check(t, bases("a", "A", "a'", "a1"), api.OK)
	check(t, natural(), api.OK)
	check(t, rich(), api.OK)
	check(t, with(bases(words()...), constant("c", of(len(words())-1))), api.OK)
	check(t, with(bases("sort", "const"), constants("var", "eq")...), api.OK)
}

func TestP5_1NamesAreWords(t *testing.T) {
	for _, s := range wrong() {
		check(t, bases(s), api.ErrForm)
		check(t, bases("b", s), api.ErrForm)
		check(t, with(bases("b"), constant(s, of(0))), api.ErrForm)
		check(t, with(bases("b"), constant("c", of(0)), constant(s, of(0))), api.ErrForm)
	}
	for _, s := range words() {
		check(t, bases(s), api.OK)
		check(t, with(bases("b"), constant(s, of(0))), api.OK)
	}
}

func TestP5_1NoTwoNamesAreTheSame(t *testing.T) {
	check(t, bases("a", "a"), api.ErrName)
	check(t, bases("a", "b", "c", "a"), api.ErrName)
	check(t, with(bases("a"), constant("f", of(0)), constant("f", of(0))), api.ErrName)
	check(t, with(bases("a"), constant("f", of(0)), constant("g", of(0)), constant("f", of(0, of(0)))), api.ErrName)
	check(t, with(natural(), constant("nat", of(0))), api.ErrName)
	check(t, with(bases("a", "b"), constant("b", of(0))), api.ErrName)
}

func TestP5_1TypesAreRightAmongTheBases(t *testing.T) {
	for _, n := range odd() {
		want := api.ErrType
		if 0 <= n && n < 3 {
			want = api.OK
		}
		table := bases("a", "b", "c")
		check(t, with(table, constant("f", of(n))), want)
		check(t, with(table, constant("f", of(0, of(n)))), want)
		check(t, with(table, constant("f", of(0, of(1), of(2, of(1, of(n)))))), want)
		check(t, with(table, constant("e", of(0)), constant("f", of(n))), want)
	}
	check(t, vocab.Table{Consts: constants("f")}, api.ErrType)
}

func TestP5_1TypesKeepToTheLimits(t *testing.T) {
	a := bases("a")
	check(t, with(a, constant("f", chain(60))), api.OK)
	check(t, with(a, constant("f", chain(61))), api.ErrType)
	check(t, with(a, constant("f", wide(999))), api.OK)
	check(t, with(a, constant("f", wide(1000))), api.ErrType)
	// Each type by itself: all together may be greater than one may be.
	check(t, with(a, constant("f", wide(999)), constant("g", wide(999))), api.OK)
	endless := of(0, of(0))
	endless.Args[0] = endless
	if e := vocab.Check(with(a, constant("f", endless))); e != api.ErrType {
		t.Error("of a type that is within itself", e)
	}
}

func TestP5_1AtMostAThousandNames(t *testing.T) {
	for _, n := range []int{0, 1, 2, 500, 999, 1000} {
		table := bases(named(n, "b")...)
		if n > 0 { // of no bases no type is right
			check(t, with(table, constants(named(1000-n, "c")...)...), api.OK)
		}
		check(t, with(table, constants(named(1001-n, "c")...)...), api.ErrLong)
	}
	check(t, bases(named(1001, "b")...), api.ErrLong)
	check(t, bases(named(5000, "b")...), api.ErrLong)
}

func TestP5_1TooManyNamesAreToldAheadOfAll(t *testing.T) {
	check(t, bases(make([]string, 1001)...), api.ErrLong)
	check(t, bases(slices.Repeat([]string{"a"}, 1001)...), api.ErrLong)
	check(t, vocab.Table{Consts: make([]vocab.Const, 1001)}, api.ErrLong)
	check(t, vocab.Table{Bases: make([]string, 1), Consts: make([]vocab.Const, 1000)}, api.ErrLong)
	check(t, vocab.Table{Bases: make([]string, 1000)}, api.ErrForm)
	check(t, vocab.Table{Consts: make([]vocab.Const, 1000)}, api.ErrForm)
}

func TestP5_1TheFirstErrorIsTold(t *testing.T) {
	// Of bases first, one by one.
	check(t, bases("a", "a", "1"), api.ErrName)
	check(t, bases("a", "1", "a"), api.ErrForm)
	check(t, bases("1", "1"), api.ErrForm)
	check(t, with(bases("a", "a"), constant("1", of(0))), api.ErrName)
	check(t, with(bases("a", "1"), constant("a", of(0))), api.ErrForm)
	check(t, with(bases("a", "a"), constant("f", of(9))), api.ErrName)
	check(t, with(bases("a", "1"), constant("f", of(9))), api.ErrForm)
	// Of constants one by one, the type behind the name.
	check(t, with(bases("a"), constant("1", of(9))), api.ErrForm)
	check(t, with(bases("a"), constant("a", of(9))), api.ErrName)
	check(t, with(bases("a"), constant("f", of(9)), constant("1", of(0))), api.ErrType)
	check(t, with(bases("a"), constant("f", of(9)), constant("f", of(0))), api.ErrType)
	check(t, with(bases("a"), constant("f", of(0)), constant("f", of(9)), constant("1", of(9))), api.ErrName)
	check(t, with(bases("a"), constant("f", of(0)), constant("1", of(9)), constant("f", of(9))), api.ErrForm)
}

// wanted is Check of a table that isn't long, by the chapter's words.
func wanted(t vocab.Table) api.Errno {
	word := regexp.MustCompile(`^[A-Za-z][A-Za-z0-9_']{0,29}$`)
	var ahead []string
	for _, name := range t.Bases {
		if !word.MatchString(name) {
			return api.ErrForm
		}
		if slices.Contains(ahead, name) {
			return api.ErrName
		}
		ahead = append(ahead, name)
	}
	for _, c := range t.Consts {
		if !word.MatchString(c.Name) {
			return api.ErrForm
		}
		if slices.Contains(ahead, c.Name) {
			return api.ErrName
		}
		if c.Type.Base < 0 || c.Type.Base >= len(t.Bases) {
			return api.ErrType
		}
		ahead = append(ahead, c.Name)
	}
	return api.OK
}

// smallTables: all tables of at most two bases and two constants, of these
// names and of base types.
func smallTables() []vocab.Table {
	names, lists := []string{"a", "b", "1"}, [][]string{nil}
	for _, x := range names {
		lists = append(lists, []string{x})
		for _, y := range names {
			lists = append(lists, []string{x, y})
		}
	}
	var all []vocab.Table
	for _, l := range lists {
		all = append(all, bases(l...))
		for _, m := range lists[1:] {
			for i := range 3 {
				table := with(bases(l...), constant(m[0], of(i)))
				for j := range 3 * (len(m) - 1) {
					all = append(all, with(table, constant(m[1], of(j))))
				}
				if len(m) == 1 {
					all = append(all, table)
				}
			}
		}
	}
	return all
}

func TestP5_1EverySmallTable(t *testing.T) {
	for _, table := range smallTables() {
		check(t, table, wanted(table))
	}
}

func TestP5_1TableTellsTheTable(t *testing.T) {
	for _, table := range append(smallTables(), vocab.Table{}, natural(), rich(), with(bases(named(500, "b")...), constants(named(500, "c")...)...)) {
		if x, e := vocab.New(table); e == api.OK && code(x.Table()) != code(table) {
			t.Errorf("Table: %s, want %s", code(x.Table()), code(table))
		}
	}
}

func TestP5_2TheExample(t *testing.T) {
	x := must(t, natural())
	if n, e := x.Const("s"); n != 1 || e != api.OK {
		t.Error(n, e)
	}
	if s, e := x.Fresh("z"); s != "z1" || e != api.OK {
		t.Error(s, e)
	}
}

// find holds Base and Const of a name against what is wanted, -1 of none.
func find(t *testing.T, x *vocab.Index, name string, base, constant int) {
	t.Helper()
	for _, c := range []struct {
		call string
		ask  func(string) (int, api.Errno)
		want int
	}{{"Base", x.Base, base}, {"Const", x.Const, constant}} {
		n, e := c.ask(name)
		if c.want < 0 && (n != 0 || e != api.ErrNone) || c.want >= 0 && (n != c.want || e != api.OK) {
			t.Errorf("%s(%q): %d, %d, want %d", c.call, name, n, e, c.want)
		}
	}
}

func TestP5_2NamesAreFound(t *testing.T) {
	x := must(t, rich())
	for range 2 {
		find(t, x, "a", 0, -1)
		find(t, x, "b'", 1, -1)
		find(t, x, "C_1", 2, -1)
		find(t, x, "f", -1, 0)
		find(t, x, "x", -1, 1)
		find(t, x, "G", -1, 2)
		for _, s := range append(wrong(), "A", "F", "b", "c_1", "C_", "C_11", "ff", "g", "X") {
			find(t, x, s, -1, -1)
		}
	}
	find(t, must(t, vocab.Table{}), "a", -1, -1)
	find(t, must(t, bases("a")), "b", -1, -1)
}

func TestP5_2AThousandNamesAreFound(t *testing.T) {
	b, c := named(400, "b"), named(600, "c")
	x := must(t, with(bases(b...), constants(c...)...))
	for i, name := range b {
		find(t, x, name, i, -1)
	}
	for i, name := range c {
		find(t, x, name, -1, i)
		if s, e := x.Name(i); s != name || e != api.OK {
			t.Errorf("Name(%d): %q, %d", i, s, e)
		}
	}
}

func TestP5_2TypesAndNamesOfConstants(t *testing.T) {
	for _, table := range []vocab.Table{{}, bases("a", "b"), natural(), rich()} {
		x := must(t, table)
		for _, i := range odd() {
			s, e := x.Name(i)
			u, f := x.Type(i)
			if i < 0 || i >= len(table.Consts) {
				if s != "" || e != api.ErrNone || u.Base != 0 || len(u.Args) != 0 || f != api.ErrNone {
					t.Errorf("%d: %q, %d, %v, %d", i, s, e, u, f)
				}
				continue
			}
			want := table.Consts[i]
			if s != want.Name || e != api.OK || codeType(u) != codeType(want.Type) || f != api.OK {
				t.Errorf("%d: %q, %d, %v, %d", i, s, e, u, f)
			}
		}
	}
}

func TestP5_2TypesInOrder(t *testing.T) {
	for _, table := range []vocab.Table{{}, bases("a"), natural(), rich(), with(bases("b"), constant("c", chain(60)), constant("d", wide(999)))} {
		var want []kind.Type
		for _, c := range table.Consts {
			want = append(want, c.Type)
		}
		if got := must(t, table).Types(); len(got) != len(want) || codeTypes(got) != codeTypes(want) {
			t.Errorf("Types: %.80s, want %.80s", codeTypes(got), codeTypes(want))
		}
	}
}

func TestP5_3Has(t *testing.T) {
	x := must(t, rich())
	for _, l := range [][]string{nil, {}, {"a"}, {"f"}, {"a", "f"}, {"f", "a"}, {"a", "a", "a"}, {"a", "b'", "C_1", "f", "x", "G"}} {
		if !x.Has(l...) {
			t.Errorf("Has(%q): false", l)
		}
	}
	for _, l := range [][]string{{"q"}, {"a", "q"}, {"q", "a"}, {"f", "q", "x"}, {"A"}, {"b"}, {"a", "x", "g"}, {"a", ""}} {
		if x.Has(l...) {
			t.Errorf("Has(%q): true", l)
		}
	}
	for _, s := range wrong() {
		if x.Has(s) {
			t.Errorf("Has(%q): true", s)
		}
	}
	if empty := must(t, vocab.Table{}); !empty.Has() || empty.Has("a") {
		t.Error("of no names")
	}
}

// fresh holds Fresh of a word against what is wanted.
func fresh(t *testing.T, table vocab.Table, word, want string, code api.Errno) {
	t.Helper()
	x := must(t, table)
	for range 2 {
		if s, e := x.Fresh(word); s != want || e != code {
			t.Errorf("Fresh(%q): %q, %d, want %q, %d", word, s, e, want, code)
		}
	}
}

func TestP5_3FreshOfWhatIsNoWord(t *testing.T) {
	for _, s := range wrong() {
		fresh(t, vocab.Table{}, s, "", api.ErrForm)
		fresh(t, rich(), s, "", api.ErrForm)
	}
}

func TestP5_3FreshOfWhatIsNoName(t *testing.T) {
	for _, s := range words() {
		fresh(t, vocab.Table{}, s, s, api.OK)
		fresh(t, natural(), s, s, api.OK)
	}
	fresh(t, natural(), "Z", "Z", api.OK)
	fresh(t, natural(), "z1", "z1", api.OK)
	fresh(t, natural(), "na", "na", api.OK)
}

func TestP5_3FreshOfANameTakesTheLeastNumber(t *testing.T) {
	fresh(t, natural(), "z", "z1", api.OK)
	fresh(t, natural(), "nat", "nat1", api.OK)
	fresh(t, bases("z", "z1"), "z", "z2", api.OK)
	fresh(t, bases("z", "z1"), "z1", "z11", api.OK)
	fresh(t, bases("z", "z0", "z2"), "z", "z1", api.OK)
	fresh(t, bases("z", "z01"), "z", "z1", api.OK)
	fresh(t, bases("z1", "z2"), "z", "z", api.OK)
	fresh(t, bases("a'"), "a'", "a'1", api.OK)
	// Bases and constants both are names.
	fresh(t, with(bases("z", "z2"), constants("z1", "z3")...), "z", "z4", api.OK)
	fresh(t, with(bases("b", "z1"), constants("z", "z2")...), "z", "z3", api.OK)
	fresh(t, bases(append(named(10, "z"), "z")...), "z", "z10", api.OK)
	fresh(t, bases(append(named(10, "z"), "z", "z11")...), "z", "z10", api.OK)
	fresh(t, bases(append(named(999, "z"), "z")...), "z", "z999", api.OK)
	fresh(t, bases(append(named(1000, "z")[1:], "z")...), "z", "z1000", api.OK)
}

func TestP5_3FreshKeepsToTheLength(t *testing.T) {
	w28 := strings.Repeat("w", 28)
	w29, w30 := w28+"w", w28+"ww"
	fresh(t, vocab.Table{}, w30, w30, api.OK)
	fresh(t, bases(w30), w30, "", api.ErrLong)
	fresh(t, with(bases("b"), constants(w30)...), w30, "", api.ErrLong)
	fresh(t, bases(w29), w29, w29+"1", api.OK)
	fresh(t, bases(append(named(9, w29), w29)...), w29, w29+"9", api.OK)
	fresh(t, bases(append(named(10, w29), w29)...), w29, "", api.ErrLong)
	fresh(t, bases(append(named(10, w28), w28)...), w28, w28+"10", api.OK)
	fresh(t, bases(append(named(99, w28), w28)...), w28, w28+"99", api.OK)
	fresh(t, bases(append(named(100, w28), w28)...), w28, "", api.ErrLong)
}

// What is fresh may be put into the table: then it is right still.
func TestP5_3AFreshNameIsNone(t *testing.T) {
	table := natural()
	for _, word := range []string{"z", "z", "nat", "s", "q", "z1", "z1", "q", "q"} {
		x := must(t, table)
		s, e := x.Fresh(word)
		if e != api.OK || x.Has(s) || !strings.HasPrefix(s, word) {
			t.Errorf("Fresh(%q): %q, %d", word, s, e)
		}
		table = with(table, constant(s, of(0)))
		check(t, table, api.OK)
	}
}

func TestP5_4ANilIndex(t *testing.T) {
	var x *vocab.Index
	if table := x.Table(); len(table.Bases) != 0 || len(table.Consts) != 0 {
		t.Error("Table", table)
	}
	if l := x.Types(); len(l) != 0 {
		t.Error("Types", l)
	}
	for _, s := range append(wrong(), words()...) {
		if n, e := x.Base(s); n != 0 || e != api.ErrState {
			t.Errorf("Base(%q): %d, %d", s, n, e)
		}
		if n, e := x.Const(s); n != 0 || e != api.ErrState {
			t.Errorf("Const(%q): %d, %d", s, n, e)
		}
		if r, e := x.Fresh(s); r != "" || e != api.ErrState {
			t.Errorf("Fresh(%q): %q, %d", s, r, e)
		}
		if x.Has(s) || x.Has(s, s) {
			t.Errorf("Has(%q): true", s)
		}
	}
	if !x.Has() || !x.Has([]string{}...) {
		t.Error("Has of none: false")
	}
	for _, i := range odd() {
		if u, e := x.Type(i); u.Base != 0 || len(u.Args) != 0 || e != api.ErrState {
			t.Errorf("Type(%d): %v, %d", i, u, e)
		}
		if s, e := x.Name(i); s != "" || e != api.ErrState {
			t.Errorf("Name(%d): %q, %d", i, s, e)
		}
	}
}

// ask calls all that an index has, and tells what it answered.
func ask(x *vocab.Index) string {
	s := code(x.Table()) + "|" + codeTypes(x.Types())
	for _, name := range []string{"a", "b'", "C_1", "f", "x", "G", "q", "spoilt", "1"} {
		b, e := x.Base(name)
		c, f := x.Const(name)
		r, g := x.Fresh(name)
		s += "|" + name + r + strconv.FormatBool(x.Has(name))
		for _, n := range []int{b, int(e), c, int(f), int(g)} {
			s += " " + strconv.Itoa(n)
		}
	}
	for i := range 5 {
		u, e := x.Type(i - 1)
		name, f := x.Name(i - 1)
		s += "|" + codeType(u) + name + strconv.Itoa(int(e)) + " " + strconv.Itoa(int(f))
	}
	return s
}

func TestP5_4ArgumentsAreNotChanged(t *testing.T) {
	table, names := rich(), []string{"f", "a", "q"}
	vocab.Check(table)
	x := must(t, table)
	ask(x)
	x.Has(names...)
	if code(table) != code(rich()) || !slices.Equal(names, []string{"f", "a", "q"}) {
		t.Error(code(table), names)
	}
	// Nothing is put into the room behind a list either.
	table.Bases = append(make([]string, 0, 9), table.Bases...)
	table.Consts = append(make([]vocab.Const, 0, 9), table.Consts...)
	ask(must(t, table))
	if s := strings.Join(table.Bases[:9][3:], ""); s != "" || code(vocab.Table{Consts: table.Consts[:9][3:]}) != strings.Repeat(`;""[0]`, 6) {
		t.Error("behind the lists")
	}
}

func TestP5_4TheTableIsNotKept(t *testing.T) {
	want := ask(must(t, rich()))
	table := rich()
	x := must(t, table)
	spoil(table)
	if got := ask(x); got != want {
		t.Errorf("changed ahead of the first call: %s", got)
	}
	table = rich()
	x = must(t, table)
	ask(x)
	spoil(table)
	if got := ask(x); got != want {
		t.Errorf("changed behind the first call: %s", got)
	}
}

func TestP5_4AnswersAreNewMemory(t *testing.T) {
	x := must(t, rich())
	want := ask(x)
	spoil(x.Table())
	l := x.Types()
	for i := range l {
		spoilType(l[i])
		l[i] = of(-1)
		u, _ := x.Type(i)
		spoilType(u)
	}
	if got := ask(x); got != want {
		t.Errorf("who changes the answers changes the index: %s", got)
	}
	one, two := x.Table(), x.Table()
	spoil(one)
	if code(two) != code(rich()) {
		t.Error("two answers share memory")
	}
}

func TestP5_4NoTwoListsOfAnAnswerShareMemory(t *testing.T) {
	shared := of(0, of(0, of(0)))
	x := must(t, with(bases("a"), constant("f", shared), constant("g", shared)))
	want := codeType(shared)
	l, table := x.Types(), x.Table()
	_ = append(l[0].Args, of(7), of(8))
	spoilType(l[0])
	_ = append(table.Consts[0].Type.Args, of(7), of(8))
	spoilType(table.Consts[0].Type)
	if codeType(l[1]) != want || codeType(table.Consts[1].Type) != want {
		t.Error(codeType(l[1]), codeType(table.Consts[1].Type))
	}
}

func TestP5_4TextsAreNeitherKeptNorShared(t *testing.T) {
	bytes := []byte("abcdefg")
	a, b, c := unsafe.String(&bytes[0], 2), unsafe.String(&bytes[2], 2), unsafe.String(&bytes[4], 3)
	x := must(t, with(bases(a), constant(b, of(0))))
	fresh, _ := x.Fresh(c)
	clear(bytes)
	if name, _ := x.Name(0); name != "cd" || fresh != "efg" || !x.Has("ab", "cd") || code(x.Table()) != code(with(bases("ab"), constant("cd", of(0)))) {
		t.Error(name, fresh, code(x.Table()))
	}
	one, _ := x.Name(0)
	two, _ := x.Name(0)
	if unsafe.StringData(one) == unsafe.StringData(two) || unsafe.StringData(x.Table().Bases[0]) == unsafe.StringData(x.Table().Bases[0]) {
		t.Error("two answers share a text")
	}
}

// P1: an index that nobody made by New has no names, and panics nowhere.
func TestP1AnIndexThatIsZero(t *testing.T) {
	if got, want := ask(&vocab.Index{}), ask(must(t, vocab.Table{})); got != want {
		t.Errorf("%s, want %s", got, want)
	}
}

// P1: types of any shape and size are looked at no further than the limits.
func TestP1AnyTypes(t *testing.T) {
	doubled := of(0)
	for range 100 {
		doubled = of(0, doubled, doubled)
	}
	for _, u := range []kind.Type{chain(1 << 16), wide(1 << 16), doubled} {
		table := with(bases("a"), constant("f", of(0)), constant("g", u))
		// They aren't told by code: some are far too great.
		if e := vocab.Check(table); e != api.ErrType {
			t.Error("Check", e)
		}
		if x, e := vocab.New(table); x != nil || e != api.ErrType {
			t.Error("New", e)
		}
	}
}

// P2: an index answers the same each time, and whoever asks at the same time.
func TestP2TheSameAnswers(t *testing.T) {
	want := ask(must(t, rich()))
	x := must(t, rich())
	got := make([]string, 8)
	var all sync.WaitGroup
	for i := range got {
		all.Go(func() { got[i] = ask(x) })
	}
	all.Wait()
	for _, s := range append(got, ask(x)) {
		if s != want {
			t.Fatal(s)
		}
	}
}

// P2: what is asked first doesn't matter to what is asked behind it.
func TestP2TheFirstCallDoesNotMatter(t *testing.T) {
	want := ask(must(t, rich()))
	for i, first := range []func(*vocab.Index){
		func(x *vocab.Index) { x.Base("q") },
		func(x *vocab.Index) { x.Const("a") },
		func(x *vocab.Index) { x.Has("f", "q") },
		func(x *vocab.Index) { x.Fresh("x") },
		func(x *vocab.Index) { spoil(x.Table()) },
		func(x *vocab.Index) { x.Types() },
		func(x *vocab.Index) { x.Name(9) },
	} {
		x := must(t, rich())
		first(x)
		if got := ask(x); got != want {
			t.Errorf("%d: %s", i, got)
		}
	}
}
