package subst_test

import (
	"math"
	"math/big"
	"testing"

	"filigree/api"
	"filigree/subst"
	"filigree/term"
)

func TestP9_4Rename(t *testing.T) {
	f := bind(m(3, v(0), m(0), bind(m(7, v(2)), b())), a(), fn())
	for name, x := range map[string]struct {
		t    term.Term
		by   int
		want term.Term
		e    api.Errno
	}{
		"none":                           {c(1, v(4)), 9, c(1, v(4)), api.OK},
		"none, by very much":             {c(1, v(4)), math.MaxInt, c(1, v(4)), api.OK},
		"none, by very little":           {bind(c(1, v(4)), a()), math.MinInt, bind(c(1, v(4)), a()), api.OK},
		"the zero term":                  {term.Term{}, -3, term.Term{}, api.OK},
		"one":                            {m(0), 2, m(2), api.OK},
		"by 0":                           {f, 0, f, api.OK},
		"all that are there":             {f, 5, bind(m(8, v(0), m(5), bind(m(12, v(2)), b())), a(), fn()), api.OK},
		"one too little":                 {f, -1, term.Term{}, api.ErrArg},
		"by less":                        {m(3, m(4)), -3, m(0, m(1)), api.OK},
		"by less than can be":            {m(4, m(3)), -4, term.Term{}, api.ErrArg},
		"up to 1000":                     {m(3, m(4)), 996, m(999, m(1000)), api.OK},
		"above 1000":                     {m(3, m(4)), 997, term.Term{}, api.ErrLong},
		"above 1000 already":             {m(1001), 0, term.Term{}, api.ErrLong},
		"from above 1000":                {m(5000), -4000, m(1000), api.OK},
		"from below 0":                   {m(-3), 3, m(0), api.OK},
		"below 0 already":                {m(-1), 0, term.Term{}, api.ErrArg},
		"one above, one below behind it": {c(0, m(4000), m(3)), -4, term.Term{}, api.ErrArg},
		"one below, one above behind it": {c(0, m(3), m(4000)), -4, term.Term{}, api.ErrArg},
		"one above, far within":          {nested(50, bind(m(990), a())), 11, term.Term{}, api.ErrLong},
		"other heads stay":               {c(0, v(0), v(-1), tm(3, 0, nil), tm(-2, 0, nil), m(0)), 6, c(0, v(0), v(-1), tm(3, 0, nil), tm(-2, 0, nil), m(6)), api.OK},
		"other heads of any index":       {c(math.MaxInt, v(math.MinInt), m(0)), 6, c(math.MaxInt, v(math.MinInt), m(6)), api.OK},
		"what isn't right":               {c(0, many(nodes, m(1))...), 1, c(0, many(nodes, m(2))...), api.OK},
		"of many levels":                 {nested(levels, m(1)), 1, nested(levels, m(2)), api.OK},
	} {
		if got, e := subst.Rename(x.t, x.by); e != x.e || !term.Equal(got, x.want) {
			t.Errorf("%s: %d; want %d", name, e, x.e)
		}
	}
}

// sum: n + by, and what Rename says of it alone.
func sum(n, by int) (int, api.Errno) {
	x := new(big.Int).Add(big.NewInt(int64(n)), big.NewInt(int64(by)))
	switch {
	case x.Sign() < 0:
		return 0, api.ErrArg
	case x.Cmp(big.NewInt(1000)) > 0:
		return 0, api.ErrLong
	}
	return int(x.Int64()), api.OK
}

func TestP9_4RenameOfAnyNumbers(t *testing.T) {
	fits := 0
	for _, n := range odd() {
		for _, k := range odd() {
			for _, by := range odd() {
				x, e := sum(n, by)
				y, is := sum(k, by)
				want := c(0, m(x), m(y))
				if e == api.OK || is == api.ErrArg {
					e = is
				}
				if e != api.OK {
					want = term.Term{}
				} else {
					fits++
				}
				if got, is := subst.Rename(c(0, m(n), m(k)), by); is != e || !term.Equal(got, want) {
					t.Fatalf("%d, %d by %d: %v, %d; want %d", n, k, by, got, is, e)
				}
			}
		}
	}
	if fits < 50 {
		t.Error("too few fit:", fits)
	}
}

func TestP9_5RenameThereAndBack(t *testing.T) {
	for _, x := range upTo(3) {
		there, e := subst.Rename(x, 20)
		if e != api.OK {
			t.Fatal(x, e)
		}
		if back, e := subst.Rename(there, -20); e != api.OK || !term.Equal(back, x) {
			t.Fatal(x, back, e)
		}
	}
}
