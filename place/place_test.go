package place_test

import (
	"math"
	"slices"
	"strings"
	"testing"
	"unsafe"

	"filigree/api"
	"filigree/place"
)

// The calls keep the signatures that the chapter lists.
var (
	_ func(string, int) (place.Mark, api.Errno) = place.Of
	_ func(string, place.Mark) (int, api.Errno) = place.At
	_ func(string) int                          = place.Lines
	_ func(string, int) (string, api.Errno)     = place.Line
	_ func(place.Mark, place.Mark) int          = place.Compare
	_ func(...place.Fault) (place.Fault, bool)  = place.First
	_ func(place.Fault) string                  = place.Text
	_ func(api.Errno) string                    = place.Name
	_                                           = place.Mark{Line: 1, Column: 1}
	_                                           = place.Fault{Code: api.OK, At: place.Mark{}, Word: ""}
)

func mark(line, column int) place.Mark { return place.Mark{Line: line, Column: column} }

func fault(code api.Errno, line, column int, word string) place.Fault {
	return place.Fault{Code: code, At: mark(line, column), Word: word}
}

// allTexts: every text of at most n of the bytes a, 10, 13 and 0xC3 (half of
// a rune), so that no shape of lines is left out.
func allTexts(n int) []string {
	all, last := []string{""}, []string{""}
	for range n {
		var next []string
		for _, s := range last {
			for _, b := range []string{"a", "\n", "\r", "\xc3"} {
				next = append(next, s+b)
			}
		}
		all, last = append(all, next...), next
	}
	return all
}

// odd: numbers of any size.
func odd() []int {
	return []int{math.MinInt, math.MinInt + 1, math.MinInt32, -7, -1, 0, 1, 2, 3, 4, 5, 6, 7, math.MaxInt32, math.MaxInt - 1, math.MaxInt}
}

// walk reckons all places of s byte by byte, without cutting it into lines.
func walk(s string) []place.Mark {
	m := mark(1, 1)
	all := []place.Mark{m}
	for i := range len(s) {
		if s[i] == 10 {
			m = mark(m.Line+1, 1)
		} else {
			m.Column++
		}
		all = append(all, m)
	}
	return all
}

func TestP1_1OfTellsThePlace(t *testing.T) {
	for _, c := range []struct {
		s    string
		at   int
		want place.Mark
	}{
		{"", 0, mark(1, 1)},
		{"ab\nc", 0, mark(1, 1)},
		{"ab\nc", 1, mark(1, 2)},
		{"ab\nc", 2, mark(1, 3)},
		{"ab\nc", 3, mark(2, 1)},
		{"ab\nc", 4, mark(2, 2)},
		{"\n", 0, mark(1, 1)},
		{"\n", 1, mark(2, 1)},
		{"a\n", 2, mark(2, 1)},
		{"\n\n\n", 3, mark(4, 1)},
		{"a\r\nb", 2, mark(1, 3)},
		{"a\r\nb", 3, mark(2, 1)},
		{"\u00e9b", 2, mark(1, 3)},
	} {
		if m, e := place.Of(c.s, c.at); e != api.OK || m != c.want {
			t.Errorf("Of(%q, %d): %v, %d; want %v", c.s, c.at, m, e, c.want)
		}
		if at, e := place.At(c.s, c.want); e != api.OK || at != c.at {
			t.Errorf("At(%q, %v): %d, %d; want %d", c.s, c.want, at, e, c.at)
		}
	}
}

func TestP1_1OfRefusesNumbersOutside(t *testing.T) {
	for _, s := range []string{"", "a", "ab\nc", "ab\n"} {
		for _, at := range append(odd(), len(s)+1) {
			if at >= 0 && at <= len(s) {
				continue
			}
			if m, e := place.Of(s, at); e != api.ErrArg || m != (place.Mark{}) {
				t.Errorf("Of(%q, %d): %v, %d; want ErrArg", s, at, m, e)
			}
		}
	}
}

func TestP1_1AtRefusesPlacesThatAreNotThere(t *testing.T) {
	for _, c := range []struct {
		s string
		m place.Mark
	}{
		{"", mark(0, 0)}, {"", mark(0, 1)}, {"", mark(1, 0)}, {"", mark(1, 2)}, {"", mark(2, 1)}, {"", mark(-1, 1)}, {"", mark(1, -1)},
		{"ab\nc", mark(1, 4)}, {"ab\nc", mark(2, 3)}, {"ab\nc", mark(3, 1)}, {"ab\nc", mark(2, 0)}, {"ab\nc", mark(0, 1)},
		{"ab\nc\n", mark(3, 2)}, {"ab\nc\n", mark(4, 1)},
		{"ab\nc", mark(math.MaxInt, 1)}, {"ab\nc", mark(1, math.MaxInt)}, {"ab\nc", mark(math.MinInt, 1)}, {"ab\nc", mark(1, math.MinInt)},
		{"ab\nc", mark(math.MaxInt, math.MaxInt)}, {"ab\nc", mark(math.MinInt, math.MinInt)},
	} {
		if at, e := place.At(c.s, c.m); e != api.ErrNone || at != 0 {
			t.Errorf("At(%q, %v): %d, %d; want ErrNone", c.s, c.m, at, e)
		}
	}
}

func TestP1_1OfAndAtUndoOneAnother(t *testing.T) {
	for _, s := range allTexts(5) {
		places := walk(s)
		for at, want := range places {
			if m, e := place.Of(s, at); e != api.OK || m != want {
				t.Fatalf("Of(%q, %d): %v, %d; want %v", s, at, m, e, want)
			}
		}
		for line := -1; line <= len(s)+3; line++ {
			for column := -1; column <= len(s)+3; column++ {
				checkAt(t, s, mark(line, column), slices.Index(places, mark(line, column)))
			}
		}
	}
}

// checkAt: want is -1, if s has no such place.
func checkAt(t *testing.T, s string, m place.Mark, want int) {
	t.Helper()
	at, e := place.At(s, m)
	if want < 0 && (e != api.ErrNone || at != 0) {
		t.Fatalf("At(%q, %v): %d, %d; want ErrNone", s, m, at, e)
	}
	if want >= 0 && (e != api.OK || at != want) {
		t.Fatalf("At(%q, %v): %d, %d; want %d", s, m, at, e, want)
	}
}

func TestP1_2LinesAndLine(t *testing.T) {
	for _, c := range []struct {
		s    string
		want []string
	}{
		{"", []string{""}},
		{"a", []string{"a"}},
		{"\n", []string{"", ""}},
		{"ab\nc", []string{"ab", "c"}},
		{"ab\nc\n", []string{"ab", "c", ""}},
		{"\n\nx", []string{"", "", "x"}},
		{"a\r\nb", []string{"a\r", "b"}},
	} {
		checkLines(t, c.s, c.want)
	}
}

func TestP1_2EveryShapeOfLines(t *testing.T) {
	for _, s := range allTexts(5) {
		checkLines(t, s, strings.Split(s, "\n"))
	}
	long := strings.Repeat("abc\n", api.MaxText/4)
	checkLines(t, long, strings.Split(long, "\n"))
}

func checkLines(t *testing.T, s string, want []string) {
	t.Helper()
	if n := place.Lines(s); n != len(want) {
		t.Fatalf("Lines(%q): %d; want %d", s, n, len(want))
	}
	for i, w := range want {
		if l, e := place.Line(s, i+1); e != api.OK || l != w {
			t.Fatalf("Line(%q, %d): %q, %d; want %q", s, i+1, l, e, w)
		}
	}
	for _, n := range append(odd(), len(want)+1) {
		if n >= 1 && n <= len(want) {
			continue
		}
		if l, e := place.Line(s, n); e != api.ErrNone || l != "" {
			t.Fatalf("Line(%q, %d): %q, %d; want ErrNone", s, n, l, e)
		}
	}
}

func TestP1_3Compare(t *testing.T) {
	for _, c := range []struct {
		a, b place.Mark
		want int
	}{
		{mark(1, 1), mark(1, 1), 0},
		{mark(0, 0), mark(0, 0), 0},
		{mark(1, 9), mark(2, 1), -1},
		{mark(2, 1), mark(1, 9), 1},
		{mark(3, 1), mark(3, 2), -1},
		{mark(3, 2), mark(3, 1), 1},
		{mark(-2, 0), mark(-1, 0), -1},
		{mark(0, -1), mark(0, -2), 1},
		{mark(math.MinInt, 0), mark(math.MaxInt, 0), -1},
		{mark(math.MaxInt, 0), mark(math.MinInt, 0), 1},
		{mark(5, math.MaxInt), mark(5, math.MinInt), 1},
		{mark(5, math.MinInt), mark(5, math.MaxInt), -1},
		{mark(math.MinInt, math.MaxInt), mark(math.MinInt, math.MaxInt), 0},
	} {
		if got := place.Compare(c.a, c.b); got != c.want {
			t.Errorf("Compare(%v, %v): %d; want %d", c.a, c.b, got, c.want)
		}
	}
}

func TestP1_3CompareFollowsTheBytes(t *testing.T) {
	places := walk("ab\n\nc\n")
	for i, a := range places {
		for j, b := range places {
			want := 0
			if i < j {
				want = -1
			} else if i > j {
				want = 1
			}
			if got := place.Compare(a, b); got != want {
				t.Errorf("Compare(%v, %v): %d; want %d", a, b, got, want)
			}
		}
	}
}

func TestP1_3First(t *testing.T) {
	for name, c := range map[string]struct {
		l    []place.Fault
		want int
	}{
		"one":                    {[]place.Fault{fault(3, 2, 1, "a")}, 0},
		"by the line":            {[]place.Fault{fault(3, 2, 1, "a"), fault(4, 1, 9, "b")}, 1},
		"by the column":          {[]place.Fault{fault(3, 2, 5, "a"), fault(4, 2, 4, "b"), fault(5, 2, 6, "c")}, 1},
		"first of several":       {[]place.Fault{fault(9, 4, 4, "a"), fault(5, 1, 2, "b"), fault(3, 1, 2, "c"), fault(5, 1, 2, "d")}, 1},
		"ok is passed over":      {[]place.Fault{fault(0, 1, 1, "a"), fault(6, 7, 7, "b"), fault(0, 0, 0, "c")}, 1},
		"codes of any number":    {[]place.Fault{fault(14, 3, 3, "a"), fault(-1, 2, 2, "b"), fault(1, 3, 1, "c")}, 1},
		"numbers below 0":        {[]place.Fault{fault(1, 0, 0, "a"), fault(1, -5, 3, "b"), fault(1, -5, 4, "c")}, 1},
		"numbers of any size":    {[]place.Fault{fault(1, math.MaxInt, 0, "a"), fault(1, math.MinInt, 0, "b")}, 1},
		"zero place behind":      {[]place.Fault{fault(2, -1, 0, ""), fault(2, 0, 0, "x")}, 0},
		"alone, with big places": {[]place.Fault{fault(0, 0, 0, ""), fault(13, math.MaxInt, math.MaxInt, "z")}, 1},
	} {
		if f, ok := place.First(c.l...); !ok || f != c.l[c.want] {
			t.Errorf("%s: First: %v, %t; want %v", name, f, ok, c.l[c.want])
		}
	}
}

func TestP1_3FirstOfNone(t *testing.T) {
	for _, l := range [][]place.Fault{
		nil,
		{},
		{fault(0, 0, 0, "")},
		{fault(api.OK, 1, 1, "a"), fault(api.OK, 0, 0, "b")},
	} {
		if f, ok := place.First(l...); ok || f != (place.Fault{}) {
			t.Errorf("First(%v): %v, %t; want none", l, f, ok)
		}
	}
}

func TestP1_3FirstLeavesItsArgumentsAlone(t *testing.T) {
	l := []place.Fault{fault(3, 2, 1, "a"), fault(4, 1, 9, "b"), fault(0, 1, 1, "c")}
	kept := slices.Clone(l)
	f, _ := place.First(l...)
	f.Word, f.At = "changed", mark(8, 8)
	if !slices.Equal(l, kept) {
		t.Error(l)
	}
}

func TestP1_4Name(t *testing.T) {
	want := strings.Fields("ok argument limit form name type pattern rule order clash none fuel proof state")
	codes := []api.Errno{api.OK, api.ErrArg, api.ErrLong, api.ErrForm, api.ErrName, api.ErrType, api.ErrPattern, api.ErrRule, api.ErrOrder, api.ErrClash, api.ErrNone, api.ErrFuel, api.ErrProof, api.ErrState}
	for n, w := range want {
		if got := place.Name(api.Errno(n)); got != w || codes[n] != api.Errno(n) {
			t.Errorf("Name(%d): %q; want %q", n, got, w)
		}
	}
	for _, e := range []api.Errno{-1, 14, 15, 256, 256 + 3, -13, math.MaxInt32, math.MinInt32, math.MaxInt, math.MinInt} {
		if got := place.Name(e); got != "?" {
			t.Errorf("Name(%d): %q; want ?", e, got)
		}
	}
}

func TestP1_4Text(t *testing.T) {
	for _, c := range []struct {
		f    place.Fault
		want string
	}{
		{fault(4, 2, 1, "x"), "2:1: name x"},
		{fault(4, 2, 1, ""), "2:1: name"},
		{fault(0, 0, 0, ""), "0:0: ok"},
		{fault(14, 10, 100, "y z"), "10:100: ? y z"},
		{fault(-1, 7, 7, ""), "7:7: ?"},
		{fault(13, -1, -20, " "), "-1:-20: state  "},
		{fault(11, 1, 1, "a\nb"), "1:1: fuel a\nb"},
		{fault(1, math.MaxInt32, math.MinInt32, "w"), "2147483647:-2147483648: argument w"},
	} {
		if got := place.Text(c.f); got != c.want {
			t.Errorf("Text(%v): %q; want %q", c.f, got, c.want)
		}
	}
}

// P1: no argument makes a call panic, and beside an error stand zero values.
func TestP1NoCallPanics(t *testing.T) {
	for _, s := range []string{"", "\n", "ab\nc", "ab\nc\n", "\xff\x00\n"} {
		for _, a := range odd() {
			if m, e := place.Of(s, a); e != api.OK && m != (place.Mark{}) {
				t.Errorf("Of(%q, %d): %v", s, a, m)
			}
			if l, e := place.Line(s, a); e != api.OK && l != "" {
				t.Errorf("Line(%q, %d): %q", s, a, l)
			}
			place.Name(api.Errno(a))
			for _, b := range odd() {
				if k, e := place.At(s, mark(a, b)); e != api.OK && k != 0 {
					t.Errorf("At(%q, %d, %d): %d", s, a, b, k)
				}
				place.Text(fault(api.Errno(a), a, b, s))
			}
		}
	}
}

// Answers are new memory: a text that is told is no piece of one handed in.
func TestAnswersShareNoMemory(t *testing.T) {
	s := strings.Repeat("ab", 20)
	if l, _ := place.Line(s, 1); unsafe.StringData(l) == unsafe.StringData(s) {
		t.Error("Line")
	}
	if f, _ := place.First(fault(3, 1, 1, s)); unsafe.StringData(f.Word) == unsafe.StringData(s) {
		t.Error("First")
	}
}

// P2: a call answers the same each time, whatever was called between.
func TestP2TheSameAnswers(t *testing.T) {
	for range 3 {
		for _, s := range allTexts(4) {
			a, e := place.Of(s, len(s))
			n := place.Lines(s)
			place.Line(s, n)
			place.First(fault(1, n, 1, s))
			b, f := place.Of(s, len(s))
			if a != b || e != f || n != place.Lines(s) {
				t.Fatalf("%q: %v, %v, %d", s, a, b, n)
			}
		}
	}
}
