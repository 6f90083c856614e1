package lex_test

import (
	"math"
	"strings"
	"testing"
	"unsafe"

	"filigree/api"
	"filigree/lex"
	"filigree/place"
)

// read: a reader of a text that can be split.
func read(t *testing.T, s string) (*lex.Reader, []lex.Token) {
	t.Helper()
	l, f := lex.Split(s)
	if f.Code != api.OK {
		t.Fatal(s, f)
	}
	return lex.New(l, s), l
}

func TestP3_4Peek(t *testing.T) {
	s := "f x ->\n12 # y"
	r, l := read(t, s)
	for ahead := range len(l) + 3 {
		for n := range len(l) + 3 {
			want := end(len(s))
			if ahead+n < len(l) {
				want = l[ahead+n]
			}
			if got := r.Peek(n); got != want {
				t.Errorf("Peek(%d) behind %d: %v; want %v", n, ahead, got, want)
			}
		}
		for _, n := range odd() {
			if got := r.Peek(n); (n < 0 || n > 7) && got != end(len(s)) {
				t.Errorf("Peek(%d) behind %d: %v; want the end", n, ahead, got)
			}
		}
		r.Next()
	}
}

func TestP3_4PeekStays(t *testing.T) {
	r, l := read(t, "a b c")
	r.Peek(0)
	r.Peek(2)
	r.Peek(9)
	if got := r.Next(); got != l[0] {
		t.Error(got)
	}
}

func TestP3_4NextGoesOnToTheEnd(t *testing.T) {
	s := "sort nat; # one\n\\x:nat. f(x') -> 12"
	r, l := read(t, s)
	for _, want := range l {
		if got := r.Next(); got != want {
			t.Fatalf("Next: %v; want %v", got, want)
		}
	}
	for range 3 {
		if got := r.Next(); got != end(len(s)) {
			t.Fatalf("Next: %v; want the end", got)
		}
		if got := r.Peek(-1); got != end(len(s)) {
			t.Fatalf("Peek(-1): %v; want the end", got)
		}
	}
}

func TestP3_4OfNoTokens(t *testing.T) {
	for _, s := range []string{"", " ", "# all\nof it"} {
		for _, l := range [][]lex.Token{nil, {}} {
			r := lex.New(l, s)
			if r.Peek(0) != end(len(s)) || r.Next() != end(len(s)) || r.Next() != end(len(s)) {
				t.Error(s, r.Peek(0))
			}
			if r.Take("") || r.Take("a") || !r.Take() {
				t.Error(s, "Take")
			}
		}
	}
	if r := new(lex.Reader); r.Next() != end(0) || r.Take("a") || r.Place() != mark(1, 1) || r.Fail(api.ErrForm) != fault(api.ErrForm, 1, 1, "") {
		t.Error("a reader that New didn't make")
	}
}

func TestP3_4Take(t *testing.T) {
	r, l := read(t, "a b -> c 12 ( d")
	for _, no := range [][]string{{"b"}, {""}, {"A"}, {"a", "->"}, {"a", "b", ">"}, {"a", "b", "->", "c", "12"}, {"a", "b", "->", "c", "("}, {"ab"}, {"a b"}, {"a", ""}, {" a"}, {"aa"}} {
		if r.Take(no...) || r.Peek(0) != l[0] {
			t.Errorf("Take(%q) took: next is %v", no, r.Peek(0))
		}
	}
	if !r.Take() || r.Peek(0) != l[0] {
		t.Error("Take of none")
	}
	if !r.Take("a") || r.Peek(0) != l[1] {
		t.Error("Take of a word")
	}
	if !r.Take("b", "->", "c") || r.Peek(0) != l[4] {
		t.Error("Take of three")
	}
	if r.Take("12") || r.Peek(0) != l[4] {
		t.Error("Take of a number")
	}
	r.Next()
	if r.Take("(", "d", "") || r.Take("(", "d", "e") || r.Peek(0) != l[5] {
		t.Error("Take of more than there are")
	}
	if !r.Take("(", "d") || r.Peek(0).Kind != lex.End {
		t.Error("Take of the last ones")
	}
	if r.Take("") || r.Take("d") || !r.Take() || r.Peek(0).Kind != lex.End {
		t.Error("Take at the end")
	}
}

func TestP3_4TakeLooksAtKinds(t *testing.T) {
	for _, kind := range odd() {
		r := lex.New([]lex.Token{{Kind: kind, Text: "a"}, word("b", 1)}, "ab")
		want := kind == lex.Word || kind == lex.Sign
		if got := r.Take("a", "b"); got != want {
			t.Errorf("Take of kind %d: %t", kind, got)
		}
		if got := r.Peek(0).Kind; want && got != lex.End || !want && got != kind {
			t.Errorf("behind Take of kind %d: %d", kind, got)
		}
	}
}

// What New was handed are tokens, even if Split would tell no such ones.
func TestP3_4AnyTokens(t *testing.T) {
	l := []lex.Token{end(5), {Kind: -3, Text: "$", At: -9}, {Kind: lex.Word, Text: "", At: 2}, word("z", math.MaxInt)}
	r := lex.New(l, "ab")
	for _, want := range l[:2] {
		if got := r.Next(); got != want {
			t.Errorf("Next: %v; want %v", got, want)
		}
	}
	if !r.Take("", "z") || r.Next() != end(2) {
		t.Error("Take of a word without a text")
	}
}

func TestP3_5PlaceAndFail(t *testing.T) {
	s := "sort nat;\n  \\x12345678901' 123456789\n# all\n"
	r, l := read(t, s)
	places := []place.Mark{mark(1, 1), mark(1, 6), mark(1, 9), mark(2, 3), mark(2, 4), mark(2, 18), mark(4, 1), mark(4, 1)}
	words := []string{"sort", "nat", ";", "\\", "x123456789", "123456789", "", ""}
	for i, m := range places {
		if got := r.Place(); got != m {
			t.Errorf("Place behind %d: %v; want %v", i, got, m)
		}
		for _, code := range []api.Errno{api.ErrForm, api.OK, api.ErrState, -1, 99, math.MaxInt} {
			if got, want := r.Fail(code), fault(code, m.Line, m.Column, words[i]); got != want {
				t.Errorf("Fail(%d) behind %d: %v; want %v", code, i, got, want)
			}
		}
		if i < len(l) && r.Peek(0) != l[i] {
			t.Errorf("Place or Fail went on: %v", r.Peek(0))
		}
		r.Next()
	}
}

func TestP3_5FailTellsTenBytes(t *testing.T) {
	for text, want := range map[string]string{
		"":                        "",
		"a":                       "a",
		"123456789":               "123456789",
		"abcdefghij":              "abcdefghij",
		"abcdefghijk":             "abcdefghij",
		strings.Repeat("n", 4000): "nnnnnnnnnn",
		"abcdefghi\u00e9":         "abcdefghi\xc3",
		"\u00e9\x00\n ":           "\u00e9\x00\n ",
	} {
		for _, kind := range odd() {
			r := lex.New([]lex.Token{{Kind: kind, Text: text, At: 1}}, "ab")
			if got := r.Fail(api.ErrName); got != fault(api.ErrName, 1, 2, want) {
				t.Errorf("Fail at %.20q: %v; want %q", text, got, want)
			}
		}
	}
}

func TestP3_5PlacesThatAreNoneOfTheText(t *testing.T) {
	for _, s := range []string{"", "a", "a\nb"} {
		for _, at := range append(odd(), len(s), len(s)+1) {
			want, e := place.Of(s, at)
			if e != api.OK {
				want = mark(1, 1)
			}
			r := lex.New([]lex.Token{word("w", at)}, s)
			if got := r.Place(); got != want {
				t.Errorf("Place at %d of %q: %v; want %v", at, s, got, want)
			}
			if got := r.Fail(api.ErrType); got != fault(api.ErrType, want.Line, want.Column, "w") {
				t.Errorf("Fail at %d of %q: %v; want %v", at, s, got, want)
			}
		}
	}
}

func TestP3_6ANilReader(t *testing.T) {
	var r *lex.Reader
	for range 2 {
		for _, n := range odd() {
			if got := r.Peek(n); got != end(0) {
				t.Errorf("Peek(%d): %v", n, got)
			}
			code := api.Errno(n)
			if got := r.Fail(code); got != fault(code, 1, 1, "") {
				t.Errorf("Fail(%d): %v", n, got)
			}
		}
		if got := r.Next(); got != end(0) {
			t.Error("Next", got)
		}
		if r.Take("") || r.Take("a") || r.Take("a", "b") || !r.Take() || !r.Take([]string{}...) {
			t.Error("Take")
		}
		if got := r.Place(); got != mark(1, 1) {
			t.Error("Place", got)
		}
	}
}

func TestP3_6TokensAreNotKept(t *testing.T) {
	l := []lex.Token{word("a", 0), word("b", 2)}
	r := lex.New(l, "a b")
	l[0], l[1] = number("9", 7), sign("(", 8)
	if r.Peek(0) != word("a", 0) || !r.Take("a") || r.Next() != word("b", 2) {
		t.Error("the reader reads what its maker changed")
	}
	l = append(l[:0:0], word("c", 0))
	one, two := lex.New(l, "c"), lex.New(l, "c")
	one.Next()
	if two.Next() != word("c", 0) {
		t.Error("two readers go on together")
	}
}

func TestP3_6TextsAreNeitherKeptNorShared(t *testing.T) {
	bytes := []byte("abcdefghijkl")
	s := unsafe.String(&bytes[0], len(bytes))
	r := lex.New([]lex.Token{word(s, 0)}, s)
	token, fail := r.Peek(0), r.Fail(api.ErrForm)
	clear(bytes)
	if token.Text != "abcdefghijkl" || fail.Word != "abcdefghij" || r.Next().Text != "abcdefghijkl" {
		t.Error(token, fail)
	}
	r = lex.New([]lex.Token{word(strings.Repeat("w", 20), 0)}, "")
	if unsafe.StringData(r.Peek(0).Text) == unsafe.StringData(r.Peek(0).Text) {
		t.Error("two answers share a text")
	}
}

func TestP3_6TheTextIsNotKept(t *testing.T) {
	bytes := []byte("a\nb c")
	r := lex.New([]lex.Token{word("b", 2)}, unsafe.String(&bytes[0], len(bytes)))
	clear(bytes)
	if got := r.Place(); got != mark(2, 1) {
		t.Error(got)
	}
}
