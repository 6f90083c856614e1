package spot_test

import (
	"fmt"
	"math"
	"slices"
	"strings"
	"testing"

	"filigree/api"
	"filigree/spot"
)

// ahead: whether a is ahead of b, as the chapter words it.
func ahead(a, b []int) bool {
	for i := range min(len(a), len(b)) {
		if a[i] != b[i] {
			return a[i] < b[i]
		}
	}
	return len(a) < len(b)
}

// anyPaths: paths of numbers of any size.
func anyPaths() [][]int {
	return append(paths(3, odd()[:7]...), paths(2, odd()...)...)
}

func TestP10_2Compare(t *testing.T) {
	for name, c := range map[string]struct {
		a, b []int
		want int
	}{
		"none":                    {nil, nil, 0},
		"none and an empty one":   {nil, []int{}, 0},
		"its beginning":           {[]int{0}, []int{0, 1}, -1},
		"the empty one":           {nil, []int{0}, -1},
		"even by below 0":         {[]int{1}, []int{1, -5}, -1},
		"lesser":                  {[]int{1, 0, 9}, []int{1, 2}, -1},
		"greater":                 {[]int{1, 2}, []int{1, 0, 9}, 1},
		"greater first":           {[]int{1}, []int{0, 1}, 1},
		"by the first difference": {[]int{0, 5, 1}, []int{0, 4, 2}, 1},
		"the same":                {[]int{3, 2, 1}, []int{3, 2, 1}, 0},
		"of any size":             {[]int{math.MinInt}, []int{math.MaxInt}, -1},
		"very long":               {append(make([]int, levels), 1), append(make([]int, levels), 0), 1},
		"very long beginnings":    {make([]int, levels), make([]int, levels+1), -1},
	} {
		if got := spot.Compare(c.a, c.b); got != c.want {
			t.Errorf("%s: %d", name, got)
		}
		if got := spot.Compare(c.b, c.a); got != -c.want {
			t.Errorf("%s, the other way: %d", name, got)
		}
	}
	all := append(paths(4, 0, 1, 2), paths(2, odd()...)...)
	for _, x := range all {
		for _, y := range all {
			want := 0
			if ahead(x, y) {
				want = -1
			} else if ahead(y, x) {
				want = 1
			}
			if got := spot.Compare(x, y); got != want {
				t.Fatalf("%v, %v: %d", x, y, got)
			}
		}
	}
}

func TestP10_2Under(t *testing.T) {
	for name, c := range map[string]struct {
		path, front []int
		want        bool
	}{
		"none":                    {nil, nil, true},
		"an empty one":            {nil, []int{}, true},
		"the empty one":           {[]int{4, 5}, nil, true},
		"itself":                  {[]int{4, 5}, []int{4, 5}, true},
		"its beginning":           {[]int{4, 5, 6}, []int{4, 5}, true},
		"one that is longer":      {[]int{4}, []int{4, 5}, false},
		"longer than the empty":   {nil, []int{0}, false},
		"another first one":       {[]int{4, 5}, []int{3}, false},
		"another last one":        {[]int{4, 5, 6}, []int{4, 6}, false},
		"its end":                 {[]int{4, 5}, []int{5}, false},
		"of any size":             {[]int{math.MinInt, math.MaxInt}, []int{math.MinInt}, true},
		"very long":               {make([]int, levels+1), make([]int, levels), true},
		"very long, by more":      {make([]int, levels), make([]int, levels+1), false},
		"very long, another last": {make([]int, levels), append(make([]int, levels-1), 1), false},
	} {
		if got := spot.Under(c.path, c.front...); got != c.want {
			t.Errorf("%s: %t", name, got)
		}
	}
	all := append(paths(4, 0, 1, 2), paths(2, odd()...)...)
	for _, x := range all {
		for _, y := range all {
			want := strings.HasPrefix(strings.Trim(fmt.Sprint(x), "[]")+" ", strings.TrimPrefix(strings.Trim(fmt.Sprint(y), "[]")+" ", " "))
			if got := spot.Under(x, y...); got != want {
				t.Fatalf("%v, %v: %t", x, y, got)
			}
		}
	}
}

func TestP10_3Text(t *testing.T) {
	for want, path := range map[string][]int{
		"-":                    nil,
		"0":                    {0},
		"7":                    {7},
		"1.0":                  {1, 0},
		"0.0.0":                {0, 0, 0},
		"10.200.999":           {10, 200, 999},
		"1000":                 {1000},
		"-1":                   {-1},
		"-1.5.-20":             {-1, 5, -20},
		"9223372036854775807":  {math.MaxInt},
		"-9223372036854775808": {math.MinInt},
	} {
		if got := spot.Text(path); got != want {
			t.Errorf("%v: %q", path, got)
		}
	}
	if got := spot.Text([]int{}); got != "-" {
		t.Errorf("the empty list: %q", got)
	}
	if got, want := spot.Text(make([]int, levels)), strings.Repeat("0.", levels-1)+"0"; got != want {
		t.Errorf("%s", brief(got))
	}
	for _, path := range anyPaths() {
		want := strings.ReplaceAll(strings.Trim(fmt.Sprint(path), "[]"), " ", ".")
		if len(path) == 0 {
			want = "-"
		}
		if got := spot.Text(path); got != want {
			t.Fatalf("%v: %q", path, got)
		}
	}
}

func TestP10_3Parse(t *testing.T) {
	long := strings.Repeat("7.", 59)
	for s, want := range map[string][]int{
		"-":          nil,
		"0":          {0},
		"9":          {9},
		"10":         {10},
		"999":        {999},
		"1.0":        {1, 0},
		"0.10.200.5": {0, 10, 200, 5},
		long + "999": append(slices.Repeat([]int{7}, 59), 999),
	} {
		if got, e := spot.Parse(s); e != api.OK || !slices.Equal(got, want) {
			t.Errorf("%q: %v, %d", s, got, e)
		}
	}
	for _, s := range []string{
		"", " ", ".", "..", "--", "-.", "-.0", "0.-", "-0", "-1", "+1", "+0", "00", "01", "1.02", "007", "1.", ".1", "1..2", ".-",
		"1000", "9999", "0.1000", "1000.0", "18446744073709551616", "9223372036854775808", "4294967296", strings.Repeat("9", levels),
		"a", "1a", "a1", "1.a", "0x1", "1e2", "1_0", "1,0", "1 0", " 1", "1 ", "1. 0", "1\n", "\n1", "1.\t0", "1\x00", "\x00",
		"\xff", "1.\xff", "١", "１", "1．0", "−", "–", "½", "1.0.", "1.0-", "1-0", "[1]", "-\n", " -",
		strings.Repeat(".", levels), strings.Repeat("0", levels), strings.Repeat("-", levels),
	} {
		if got, e := spot.Parse(s); e != api.ErrForm || len(got) > 0 {
			t.Errorf("%s: %v, %d; want ErrForm", brief(s), got, e)
		}
	}
	for _, s := range []string{long + "7.7", long + "0.0.0", long + long + "1", strings.Repeat("0.", levels) + "0"} {
		if got, e := spot.Parse(s); e != api.ErrLong || len(got) > 0 {
			t.Errorf("%s: %v, %d; want ErrLong", brief(s), got, e)
		}
	}
	// What isn't the text of such a path at all is told ahead of its length.
	for _, s := range []string{long + "7.", long + "7.1000", long + "7.a", long + "7.7.-1", strings.Repeat("0.", levels), strings.Repeat("0.", levels) + "00", "x." + long + "7.7"} {
		if got, e := spot.Parse(s); e != api.ErrForm || len(got) > 0 {
			t.Errorf("%s: %v, %d; want ErrForm", brief(s), got, e)
		}
	}
}

func TestP10_3ParseUndoesText(t *testing.T) {
	for _, path := range anyPaths() {
		within := !slices.ContainsFunc(path, func(n int) bool { return n < 0 || n > 999 })
		got, e := spot.Parse(spot.Text(path))
		if within && (e != api.OK || !slices.Equal(got, path)) || !within && (e != api.ErrForm || len(got) > 0) {
			t.Fatalf("%v: %v, %d", path, got, e)
		}
	}
	for n := range 1200 {
		path := []int{n, 0, n}
		if got, e := spot.Parse(spot.Text(path)); (e == api.OK) != (n < 1000) || n < 1000 && !slices.Equal(got, path) {
			t.Fatalf("%v: %v, %d", path, got, e)
		}
	}
	for n := range 70 {
		path := slices.Repeat([]int{n}, n)
		if got, e := spot.Parse(spot.Text(path)); n <= 60 && (e != api.OK || !slices.Equal(got, path)) || n > 60 && e != api.ErrLong {
			t.Fatalf("%v: %v, %d", path, got, e)
		}
	}
}

// texts: all texts of that length, of these signs.
func texts(length int, signs string) []string {
	if length == 0 {
		return []string{""}
	}
	var all []string
	for _, s := range texts(length-1, signs) {
		for _, r := range signs {
			all = append(all, s+string(r))
		}
	}
	return all
}

// Of all short texts those are right that are the text of a path.
func TestP10_3ParseOfShortTexts(t *testing.T) {
	var numbers []int
	for n := range 1000 {
		if strings.Trim(fmt.Sprint(n), "019") == "" {
			numbers = append(numbers, n)
		}
	}
	right := map[string][]int{}
	for _, path := range paths(3, numbers...) {
		right[spot.Text(path)] = path
	}
	for n := range 6 {
		for _, s := range texts(n, "019.-") {
			got, e := spot.Parse(s)
			want, ok := right[s]
			if ok && (e != api.OK || !slices.Equal(got, want)) || !ok && (e != api.ErrForm || len(got) > 0) {
				t.Fatalf("%q: %v, %d", s, got, e)
			}
		}
	}
}
