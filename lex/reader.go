package lex

import (
	"strings"

	"filigree/api"
	"filigree/place"
)

// Reader reads tokens of a text, one after another.
type Reader struct {
	tokens []Token
	text   string
	at     int // how many of the tokens are behind it
}

// New tells a reader of tokens l, of the text s, ahead of the first one.
func New(l []Token, s string) *Reader {
	r := &Reader{text: strings.Clone(s), tokens: make([]Token, 0, len(l))}
	for _, t := range l {
		r.tokens = append(r.tokens, fresh(t))
	}
	return r
}

// look is Peek without a copy of the text, for what is only looked at.
func (r *Reader) look(n int) Token {
	switch {
	case r == nil:
		return Token{Kind: End}
	// Not r.at+n: that may be more than an int holds.
	case n < 0 || n >= len(r.tokens)-r.at:
		return Token{Kind: End, At: len(r.text)}
	}
	return r.tokens[r.at+n]
}

// Peek tells the token n behind the next one.
func (r *Reader) Peek(n int) Token { return fresh(r.look(n)) }

// Next tells the next token, and goes on.
func (r *Reader) Next() Token {
	t := r.Peek(0)
	if r != nil && r.at < len(r.tokens) {
		r.at++
	}
	return t
}

// Take goes on behind signs or words of just these texts, if they are the
// next tokens, and tells whether they are.
func (r *Reader) Take(texts ...string) bool {
	for i, text := range texts {
		t := r.look(i)
		if t.Kind != Word && t.Kind != Sign || t.Text != text {
			return false
		}
	}
	// A nil reader comes here with no texts alone.
	if r != nil {
		r.at += len(texts)
	}
	return true
}

// Place tells where the next token stands.
func (r *Reader) Place() place.Mark {
	if r == nil {
		return start()
	}
	// Tokens may be of another text: then their places are none of this one.
	m, e := place.Of(r.text, r.look(0).At)
	if e != api.OK {
		return start()
	}
	return m
}

// Fail tells a fault at the next token.
func (r *Reader) Fail(code api.Errno) place.Fault {
	return place.Fault{Code: code, At: r.Place(), Word: head(r.look(0).Text)}
}
