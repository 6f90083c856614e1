package spot

import (
	"slices"
	"strconv"
	"strings"

	"filigree/api"
)

const (
	// root is the empty path's text.
	root = "-"
	// point stands between a path's numbers.
	point = "."
	// maxNumber is the greatest number that a text may have.
	maxNumber = 999
)

// Compare tells -1, 0 or 1, as a is ahead of b, the same, or behind it.
func Compare(a, b []int) int { return slices.Compare(a, b) }

// Under tells whether path begins with front.
func Under(path []int, front ...int) bool {
	return len(front) <= len(path) && slices.Equal(path[:len(front)], front)
}

// Text tells path as a text.
func Text(path []int) string {
	if len(path) == 0 {
		return root
	}
	var b strings.Builder
	for i, n := range path {
		if i > 0 {
			b.WriteString(point)
		}
		b.WriteString(strconv.Itoa(n))
	}
	return b.String()
}

// Parse tells the path whose text s is.
func Parse(s string) ([]int, api.Errno) {
	if s == root {
		return nil, api.OK
	}
	var path []int
	for word := range strings.SplitSeq(s, point) {
		n, ok := number(word)
		if !ok {
			return nil, api.ErrForm
		}
		// Behind the limit it is only looked for what is no number.
		if len(path) <= api.MaxNest {
			path = append(path, n)
		}
	}
	if len(path) > api.MaxNest {
		return nil, api.ErrLong
	}
	return path, api.OK
}

// number tells the number of a path whose text s is, and whether it is one.
func number(s string) (int, bool) {
	n, err := strconv.Atoi(s)
	return n, err == nil && n >= 0 && n <= maxNumber && strconv.Itoa(n) == s
}
