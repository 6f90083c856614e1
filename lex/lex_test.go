package lex_test

import (
	"math"
	"regexp"
	"slices"
	"strconv"
	"strings"
	"testing"
	"unsafe"

	"filigree/api"
	"filigree/lex"
	"filigree/place"
)

// The calls keep the signatures that the chapter lists.
var (
	_ func(string) ([]lex.Token, place.Fault)  = lex.Split
	_ func([]lex.Token) string                 = lex.Print
	_ func(string) bool                        = lex.IsWord
	_ func(lex.Token) (int, api.Errno)         = lex.Value
	_ func([]lex.Token, string) *lex.Reader    = lex.New
	_ func(*lex.Reader, int) lex.Token         = (*lex.Reader).Peek
	_ func(*lex.Reader) lex.Token              = (*lex.Reader).Next
	_ func(*lex.Reader, ...string) bool        = (*lex.Reader).Take
	_ func(*lex.Reader) place.Mark             = (*lex.Reader).Place
	_ func(*lex.Reader, api.Errno) place.Fault = (*lex.Reader).Fail
	_                                          = lex.Token{Kind: 1, Text: "", At: 0}
	_                                          = lex.Reader{}
	_ int                                      = lex.Word + lex.Number + lex.Sign + lex.End
)

const signs = `-> ( ) \ . , ; : = > < [ ] { } ! ? @`

func word(s string, at int) lex.Token   { return lex.Token{Kind: lex.Word, Text: s, At: at} }
func number(s string, at int) lex.Token { return lex.Token{Kind: lex.Number, Text: s, At: at} }
func sign(s string, at int) lex.Token   { return lex.Token{Kind: lex.Sign, Text: s, At: at} }
func end(at int) lex.Token              { return lex.Token{Kind: lex.End, At: at} }

func mark(line, column int) place.Mark { return place.Mark{Line: line, Column: column} }

func fault(code api.Errno, line, column int, word string) place.Fault {
	return place.Fault{Code: code, At: mark(line, column), Word: word}
}

// odd: numbers of any size.
func odd() []int {
	return []int{math.MinInt, math.MinInt + 1, math.MinInt32, -7, -1, 0, 1, 2, 3, 4, 5, 6, 7, math.MaxInt32, math.MaxInt - 1, math.MaxInt}
}

// allTexts: every text of at most n of these pieces.
func allTexts(n int, pieces ...string) []string {
	all, last := []string{""}, []string{""}
	for range n {
		var next []string
		for _, s := range last {
			for _, p := range pieces {
				next = append(next, s+p)
			}
		}
		all, last = append(all, next...), next
	}
	return all
}

func checkSplit(t *testing.T, s string, want ...lex.Token) {
	t.Helper()
	if l, f := lex.Split(s); f != (place.Fault{}) || !slices.Equal(l, want) {
		t.Errorf("Split(%.40q): %v, %v; want %v", s, l, f, want)
	}
}

func checkFault(t *testing.T, s string, want place.Fault) {
	t.Helper()
	if l, f := lex.Split(s); f != want || len(l) != 0 {
		t.Errorf("Split(%.40q): %v, %v; want %v", s, l, f, want)
	}
}

func TestKindsHaveTheirNumbers(t *testing.T) {
	if lex.Word != 1 || lex.Number != 2 || lex.Sign != 3 || lex.End != 4 {
		t.Error(lex.Word, lex.Number, lex.Sign, lex.End)
	}
}

func TestP3_1SplitTellsTokens(t *testing.T) {
	checkSplit(t, "f x -> 12 # y", word("f", 0), word("x", 2), sign("->", 4), number("12", 7))
	checkSplit(t, "")
	checkSplit(t, " \t\n\r ")
	checkSplit(t, "a", word("a", 0))
	checkSplit(t, "Zz09_'Q", word("Zz09_'Q", 0))
	checkSplit(t, "ab cd", word("ab", 0), word("cd", 3))
	checkSplit(t, "a\tb\nc\rd e", word("a", 0), word("b", 2), word("c", 4), word("d", 6), word("e", 8))
	checkSplit(t, "\r\n a\r\n", word("a", 3))
	checkSplit(t, "007 0", number("007", 0), number("0", 4))
	checkSplit(t, "x'_1'", word("x'_1'", 0))
}

func TestP3_1TokensNeedNoBlankBetween(t *testing.T) {
	checkSplit(t, "12ab", number("12", 0), word("ab", 2))
	checkSplit(t, "ab12", word("ab12", 0))
	checkSplit(t, "f(x',1)", word("f", 0), sign("(", 1), word("x'", 2), sign(",", 4), number("1", 5), sign(")", 6))
	checkSplit(t, `\x:a.x`, sign(`\`, 0), word("x", 1), sign(":", 2), word("a", 3), sign(".", 4), word("x", 5))
	checkSplit(t, "a->b", word("a", 0), sign("->", 1), word("b", 3))
	checkSplit(t, "->->", sign("->", 0), sign("->", 2))
	checkSplit(t, ">->", sign(">", 0), sign("->", 1))
	checkSplit(t, "1->2", number("1", 0), sign("->", 1), number("2", 3))
	checkSplit(t, "::==", sign(":", 0), sign(":", 1), sign("=", 2), sign("=", 3))
}

func TestP3_1EverySign(t *testing.T) {
	for _, s := range strings.Fields(signs) {
		checkSplit(t, s, sign(s, 0))
		checkSplit(t, " a"+s+"1", word("a", 1), sign(s, 2), number("1", 2+len(s)))
	}
}

// Each byte alone is a word, a number, a sign, a blank, the head of a remark,
// or a fault.
func TestP3_1EveryByteAlone(t *testing.T) {
	for i := range 256 {
		b := byte(i)
		s := string([]byte{b})
		switch {
		case 'a' <= b && b <= 'z', 'A' <= b && b <= 'Z':
			checkSplit(t, s, word(s, 0))
		case '0' <= b && b <= '9':
			checkSplit(t, s, number(s, 0))
		case b != '-' && strings.Contains(signs, s) && b != ' ':
			checkSplit(t, s, sign(s, 0))
		case b == 32, b == 9, b == 10, b == 13, b == '#':
			checkSplit(t, s)
		case 33 <= b && b <= 126:
			checkFault(t, s, fault(api.ErrForm, 1, 1, s))
			checkFault(t, "a\n "+s+s, fault(api.ErrForm, 2, 2, s))
		default:
			checkFault(t, s, fault(api.ErrForm, 1, 1, ""))
			checkFault(t, "a\n "+s+"b", fault(api.ErrForm, 2, 2, ""))
		}
	}
}

// Each byte behind a letter goes on with the word, or doesn't.
func TestP3_1EveryByteBehindALetter(t *testing.T) {
	for i := range 256 {
		s := "a" + string([]byte{byte(i)})
		within := regexp.MustCompile(`^a[A-Za-z0-9_']$`).MatchString(s)
		if l, _ := lex.Split(s); within != (len(l) == 1 && l[0] == word(s, 0)) {
			t.Errorf("Split(%q): %v", s, l)
		}
		if lex.IsWord(s) != within {
			t.Errorf("IsWord(%q): %t", s, !within)
		}
	}
}

func TestP3_1Remarks(t *testing.T) {
	checkSplit(t, "#")
	checkSplit(t, "# $ - \x00\xff 1234567890")
	checkSplit(t, "#a\nb", word("b", 3))
	checkSplit(t, "a#b\n#c\n\nd#", word("a", 0), word("d", 8))
	checkSplit(t, "a# b # c\rd\ne", word("a", 0), word("e", 11))
	checkSplit(t, "1#2\n3", number("1", 0), number("3", 4))
	checkSplit(t, "("+"#"+strings.Repeat("x", 100)+"\n)", sign("(", 0), sign(")", 103))
	checkFault(t, "-#\n>", fault(api.ErrForm, 1, 1, "-"))
}

func TestP3_1FaultsOfForm(t *testing.T) {
	checkFault(t, "a-b", fault(api.ErrForm, 1, 2, "-"))
	checkFault(t, "-", fault(api.ErrForm, 1, 1, "-"))
	checkFault(t, "- >", fault(api.ErrForm, 1, 1, "-"))
	checkFault(t, "--> ", fault(api.ErrForm, 1, 1, "-"))
	checkFault(t, "->-", fault(api.ErrForm, 1, 3, "-"))
	checkFault(t, "\n $", fault(api.ErrForm, 2, 2, "$"))
	checkFault(t, "_a", fault(api.ErrForm, 1, 1, "_"))
	checkFault(t, "a 'b", fault(api.ErrForm, 1, 3, "'"))
	checkFault(t, "1_", fault(api.ErrForm, 1, 2, "_"))
	checkFault(t, "$$$$$$$$$$$$", fault(api.ErrForm, 1, 1, "$"))
	checkFault(t, "a\x00", fault(api.ErrForm, 1, 2, ""))
	checkFault(t, "a \u00e9", fault(api.ErrForm, 1, 3, ""))
	checkFault(t, "a\u00e9", fault(api.ErrForm, 1, 2, ""))
	checkFault(t, "\u00a0", fault(api.ErrForm, 1, 1, ""))
	checkFault(t, "a\x0bb", fault(api.ErrForm, 1, 2, ""))
	checkFault(t, "a\x0cb", fault(api.ErrForm, 1, 2, ""))
	checkFault(t, "# one\n# two\n  %", fault(api.ErrForm, 3, 3, "%"))
}

func TestP3_1FaultsOfLength(t *testing.T) {
	for _, c := range []struct{ ahead, behind string }{{"", ""}, {"", " "}, {"(", ")"}, {"#x\n", "->"}} {
		w, n := strings.Repeat("Ab_'9", 6), "123456789"
		at := len(c.ahead)
		if l, f := lex.Split(c.ahead + w + c.behind); f.Code != api.OK || !slices.Contains(l, word(w, at)) {
			t.Errorf("%q: %v, %v", c, l, f)
		}
		if l, f := lex.Split(c.ahead + n + c.behind); f.Code != api.OK || !slices.Contains(l, number(n, at)) {
			t.Errorf("%q: %v, %v", c, l, f)
		}
		m, _ := place.Of(c.ahead, at)
		checkFault(t, c.ahead+w+"z"+c.behind, fault(api.ErrLong, m.Line, m.Column, "Ab_'9Ab_'9"))
		checkFault(t, c.ahead+n+"0"+c.behind, fault(api.ErrLong, m.Line, m.Column, "1234567890"))
		checkFault(t, c.ahead+n+n+n+c.behind, fault(api.ErrLong, m.Line, m.Column, "1234567891"))
	}
	checkFault(t, strings.Repeat("0", 10), fault(api.ErrLong, 1, 1, "0000000000"))
	checkFault(t, strings.Repeat("q", api.MaxText), fault(api.ErrLong, 1, 1, "qqqqqqqqqq"))
	checkFault(t, strings.Repeat("7", api.MaxText), fault(api.ErrLong, 1, 1, "7777777777"))
	checkSplit(t, "123456789a", number("123456789", 0), word("a", 9))
}

func TestP3_1TheFirstFaultIsTold(t *testing.T) {
	long := strings.Repeat("w", 31)
	checkFault(t, "a $ "+long+" %", fault(api.ErrForm, 1, 3, "$"))
	checkFault(t, "a "+long+" $", fault(api.ErrLong, 1, 3, "wwwwwwwwww"))
	checkFault(t, "1234567890"+long, fault(api.ErrLong, 1, 1, "1234567890"))
	checkFault(t, long+"-1234567890", fault(api.ErrLong, 1, 1, "wwwwwwwwww"))
	checkFault(t, "12345678901a$", fault(api.ErrLong, 1, 1, "1234567890"))
	checkFault(t, "a\n-\n$", fault(api.ErrForm, 2, 1, "-"))
}

func TestP3_1TooLongATextIsLookedAtNoFurther(t *testing.T) {
	for _, s := range []string{" ", "a ", "$", "(", "#", "\n", "1", "\x00"} {
		all := strings.Repeat(s, api.MaxText+1)
		checkFault(t, all[:api.MaxText+1], fault(api.ErrLong, 1, 1, ""))
		checkFault(t, all, fault(api.ErrLong, 1, 1, ""))
	}
	checkSplit(t, strings.Repeat(" ", api.MaxText))
	checkSplit(t, strings.Repeat("#", api.MaxText))
	checkSplit(t, strings.Repeat(" ", api.MaxText-1)+"z", word("z", api.MaxText-1))
	l, f := lex.Split(strings.Repeat("(", api.MaxText))
	if f != (place.Fault{}) || len(l) != api.MaxText || l[api.MaxText-1] != sign("(", api.MaxText-1) {
		t.Error(len(l), f)
	}
}

// reference splits by expressions, one token at a time.
func reference(s string) ([]lex.Token, place.Fault) {
	between := regexp.MustCompile(`^([ \t\n\r]|#[^\n]*(\n|$))*`)
	forms := map[int]*regexp.Regexp{
		lex.Word:   regexp.MustCompile(`^[A-Za-z][A-Za-z0-9_']*`),
		lex.Number: regexp.MustCompile(`^[0-9]+`),
		lex.Sign:   regexp.MustCompile(`^(->|[()\\.,;:=><\[\]{}!?@])`),
	}
	limits := map[int]int{lex.Word: 30, lex.Number: 9, lex.Sign: 2}
	var l []lex.Token
	rest := s
	for {
		rest = rest[len(between.FindString(rest)):]
		at := len(s) - len(rest)
		if rest == "" {
			return l, place.Fault{}
		}
		m := mark(1+strings.Count(s[:at], "\n"), at-strings.LastIndex(s[:at], "\n"))
		kind, text := 0, rest[:1]
		for k, form := range forms {
			if form.MatchString(rest) {
				kind, text = k, form.FindString(rest)
			}
		}
		if kind == 0 {
			return nil, place.Fault{Code: api.ErrForm, At: m, Word: regexp.MustCompile(`^[^!-~]`).ReplaceAllString(text, "")}
		}
		if len(text) > limits[kind] {
			return nil, place.Fault{Code: api.ErrLong, At: m, Word: text[:10]}
		}
		l = append(l, lex.Token{Kind: kind, Text: text, At: at})
		rest = rest[len(text):]
	}
}

func TestP3_1EveryShortTextAsTheReference(t *testing.T) {
	texts := allTexts(4, "a", "7", "-", ">", "#", "\n", " ", "'", ".")
	texts = append(texts, allTexts(3, "abcdefghijklmno", "12345", "->", "#", "\n\t", "\x7f", "~", "!")...)
	for _, s := range texts {
		want, fault := reference(s)
		if l, f := lex.Split(s); f != fault || !slices.Equal(l, want) {
			t.Fatalf("Split(%q): %v, %v; want %v, %v", s, l, f, want, fault)
		}
	}
}

func TestP3_2IsWord(t *testing.T) {
	for _, s := range []string{"a", "Z", "a_1'", "x''", "sort", "A9", strings.Repeat("k", 30)} {
		if !lex.IsWord(s) {
			t.Errorf("IsWord(%q): false", s)
		}
	}
	for _, s := range []string{"", "1a", "1", "_a", "'", "a b", " a", "a ", "a\n", "a#", "#a", "a-", "->", "(", "a.b", "\x00", "a\x00", "\u00e9", "a\u00e9", "aK\u212a", strings.Repeat("k", 31), strings.Repeat("k", 30000)} {
		if lex.IsWord(s) {
			t.Errorf("IsWord(%.40q): true", s)
		}
	}
}

func TestP3_2Value(t *testing.T) {
	for s, want := range map[string]int{"0": 0, "7": 7, "12": 12, "007": 7, "10": 10, "000000000": 0, "000000019": 19, "123456789": 123456789, "999999999": 999999999, "100000000": 100000000} {
		for _, at := range odd() {
			if n, e := lex.Value(number(s, at)); e != api.OK || n != want {
				t.Errorf("Value(%q at %d): %d, %d", s, at, n, e)
			}
		}
	}
}

func TestP3_2ValueRefusesWhatIsNoNumber(t *testing.T) {
	l := []lex.Token{{}, word("a", 0), word("12", 0), sign("12", 0), end(0), {Kind: lex.End, Text: "12"}, {Kind: 0, Text: "12"}, {Kind: 5, Text: "12"}, {Kind: -2, Text: "12"}, {Kind: math.MaxInt, Text: "12"}}
	for _, s := range []string{"", "a", "12a", "1 2", " 12", "12 ", "-1", "+1", "1.0", "0x1", "1_0", "1234567890", "0000000001", "12\n", "12#", "\u0661", "1\x00", strings.Repeat("9", 40000)} {
		l = append(l, number(s, 0))
	}
	for _, k := range l {
		if n, e := lex.Value(k); e != api.ErrArg || n != 0 {
			t.Errorf("Value(%.40q, %d): %d, %d; want ErrArg", k.Text, k.Kind, n, e)
		}
	}
}

func TestP3_2Print(t *testing.T) {
	for _, c := range []struct {
		l    []lex.Token
		want string
	}{
		{nil, ""},
		{[]lex.Token{}, ""},
		{[]lex.Token{word("a", 7)}, "a"},
		{[]lex.Token{word("f", 0), sign("->", -5), number("12", 99)}, "f -> 12"},
		{[]lex.Token{end(3)}, ""},
		{[]lex.Token{end(3), word("a", 0), end(3), end(3)}, " a  "},
		{[]lex.Token{{Kind: 77, Text: "$ \n"}, {Kind: -1, Text: "\xff"}}, "$ \n \xff"},
	} {
		if got := lex.Print(c.l); got != c.want {
			t.Errorf("Print(%v): %q; want %q", c.l, got, c.want)
		}
	}
}

func TestP3_3PrintIsSplitIntoTheSame(t *testing.T) {
	texts := allTexts(4, "a", "7", "->", ">", "#", "\n", "'", "(")
	texts = append(texts, "sort nat; # one\n\\x:nat. f(x') -> 12", strings.Repeat("a(", 5000), strings.Repeat("k", 30)+"->123456789abc")
	for _, s := range texts {
		l, f := lex.Split(s)
		if f.Code != api.OK {
			continue
		}
		again, f := lex.Split(lex.Print(l))
		if f != (place.Fault{}) || !slices.EqualFunc(l, again, sameToken) {
			t.Fatalf("%.40q: %v, %v; want %v", s, again, f, l)
		}
	}
}

// sameToken: wherever they stand.
func sameToken(a, b lex.Token) bool { return a.Kind == b.Kind && a.Text == b.Text }

// P1: no text makes a call panic, and beside a fault stand no tokens.
func TestP1NoTextMakesACallPanic(t *testing.T) {
	texts := allTexts(3, "\x00", "\xff", "-", "#", "\n", "a", "\u00e9", "\x7f", "9")
	for _, s := range append(texts, strings.Repeat("\xc3", 50000), strings.Repeat("a", 3*api.MaxText)) {
		if l, f := lex.Split(s); f.Code != api.OK && len(l) != 0 {
			t.Errorf("Split(%.40q): %v, %v", s, l, f)
		}
		lex.IsWord(s)
		for _, k := range odd() {
			lex.Print([]lex.Token{{Kind: k, Text: s, At: k}})
			if n, e := lex.Value(lex.Token{Kind: k, Text: s, At: k}); e != api.OK && n != 0 {
				t.Errorf("Value(%d, %.40q): %d, %d", k, s, n, e)
			}
		}
	}
}

// P2: a call answers the same each time, whatever was called between.
func TestP2TheSameAnswers(t *testing.T) {
	for _, s := range allTexts(3, "a", "7", "-", ">", "#", "\n", " ", "$") {
		l, f := lex.Split(s)
		lex.Split("f x -> " + s)
		lex.New(l, s).Take("a")
		m, g := lex.Split(s)
		if f != g || !slices.Equal(l, m) || lex.Print(l) != lex.Print(m) {
			t.Fatalf("%q: %v, %v, %v, %v", s, l, f, m, g)
		}
	}
}

// Answers are new memory: a text that is told is no piece of one handed in.
func TestAnswersShareNoMemory(t *testing.T) {
	s := strings.Repeat("ab", 15)
	l, _ := lex.Split(s)
	if unsafe.StringData(l[0].Text) == unsafe.StringData(s) {
		t.Error("Split")
	}
	if p := lex.Print(l); unsafe.StringData(p) == unsafe.StringData(l[0].Text) {
		t.Error("Print")
	}
	long := strings.Repeat("1", 10)
	if _, f := lex.Split(long); unsafe.StringData(f.Word) == unsafe.StringData(long) {
		t.Error("Split's fault")
	}
	l[0].Text = "changed"
	if m, _ := lex.Split(s); m[0].Text != s {
		t.Error(m)
	}
}

func TestArgumentsStayAsTheyAre(t *testing.T) {
	l := []lex.Token{word("a", 4), number(strconv.Itoa(12), -1), end(7)}
	kept := slices.Clone(l)
	lex.Print(l)
	r := lex.New(l, "a 12")
	r.Take("a")
	r.Next()
	r.Next()
	r.Fail(api.ErrForm)
	if !slices.Equal(l, kept) {
		t.Error(l)
	}
	texts := []string{"a", "b"}
	lex.New(l, "a 12").Take(texts...)
	if !slices.Equal(texts, []string{"a", "b"}) {
		t.Error(texts)
	}
}
