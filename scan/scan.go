// Package scan is layer 1: see shared/doc/01-scan.md.
package scan

import (
	"iter"
	"strconv"
	"strings"

	"soffit/api"
)

// All tells the tokens of a source, or what is wrong, and where.
func All(src string) ([]api.Token, api.Errno, int) {
	if len(src) > api.MaxSource {
		return nil, api.ErrBytes, api.MaxSource
	}
	var all []api.Token
	for t, e := range steps(src) {
		if e != api.OK {
			return nil, e, t.At
		}
		all = append(all, t)
	}
	return all, api.OK, 0
}

// Tokens goes through the tokens of a source, up to the first thing that is wrong.
func Tokens(src string) iter.Seq[api.Token] {
	if len(src) > api.MaxSource {
		return func(func(api.Token) bool) {}
	}
	// The iterator outlives this call, and what was handed in may not be kept.
	own := strings.Clone(src)
	return func(yield func(api.Token) bool) {
		for t, e := range steps(own) {
			if e != api.OK || !yield(t) {
				return
			}
		}
	}
}

// Word tells whether a text is a word of the language.
func Word(s string) bool {
	switch s {
	case "widen", "fn", "let", "for", "in", "if", "else", "switch", "case", "break", "return":
		return true
	}
	return false
}

// Name tells whether a text may be a name.
func Name(s string) bool {
	if s == "" || len(s) > api.MaxName || Word(s) {
		return false
	}
	return letter(s[0]) && row(s, letterOrDigit) == len(s)
}

// steps goes through a source's tokens, each with OK; an error comes last, with a token that has its place alone.
func steps(src string) iter.Seq2[api.Token, api.Errno] {
	return func(yield func(api.Token, api.Errno) bool) {
		at := pass(src, 0)
		for at < len(src) {
			t, e := take(src[at:])
			t.At = at
			if !yield(t, e) || e != api.OK {
				return
			}
			at = pass(src, at+len(t.Text))
		}
	}
}

// pass tells the first place from at on that is neither a blank nor in a remark.
func pass(src string, at int) int {
next:
	for ; at < len(src); at++ {
		switch src[at] {
		case ' ', '\t', '\n', '\r':
			continue next
		case '#':
			for ; at < len(src); at++ {
				if src[at] == '\n' {
					continue next
				}
			}
		}
		return at
	}
	return at
}

// take tells the token at the beginning of a text that is not empty, as if its place were 0, or what is wrong there.
func take(rest string) (api.Token, api.Errno) {
	switch {
	case letter(rest[0]):
		return takeLetters(rest)
	case digit(rest[0]):
		return takeDigits(rest)
	}
	return takeSign(rest)
}

func takeLetters(rest string) (api.Token, api.Errno) {
	text := rest[:row(rest, letterOrDigit)]
	if len(text) > api.MaxName {
		return api.Token{}, api.ErrBytes
	}
	if Word(text) {
		return token(api.TokWord, text, 0), api.OK
	}
	return token(api.TokName, text, 0), api.OK
}

func takeDigits(rest string) (api.Token, api.Errno) {
	text := rest[:row(rest, digit)]
	if len(text) > 1 && text[0] == '0' {
		return api.Token{}, api.ErrNumber
	}
	n, err := strconv.ParseInt(text, 10, 64)
	if err != nil {
		return api.Token{}, api.ErrNumber
	}
	return token(api.TokNumber, text, n), api.OK
}

func takeSign(rest string) (api.Token, api.Errno) {
	n := signLength(rest)
	if n == 0 {
		return api.Token{}, api.ErrSign
	}
	return token(api.TokSign, rest[:n], 0), api.OK
}

// token makes a token whose text is its own: a piece of the source would hold on to all of it.
func token(kind int, text string, n int64) api.Token {
	return api.Token{Kind: kind, Text: strings.Clone(text), N: n}
}

// signLength tells how long the longest sign at the beginning of a text is; 0: none stands there.
func signLength(rest string) int {
	if len(rest) >= 2 {
		switch rest[:2] {
		case "==", "!=", "<=", ">=", "&&", "||", "..":
			return 2
		}
	}
	switch rest[0] {
	case '(', ')', '{', '}', '[', ']', ',', ';', ':', '?', '=', '<', '>', '+', '-', '*', '/', '%', '!':
		return 1
	}
	return 0
}

// row tells how many bytes at the beginning of a text are of a kind.
func row(s string, is func(byte) bool) int {
	n := 0
	for n < len(s) && is(s[n]) {
		n++
	}
	return n
}

func letter(c byte) bool { return 'a' <= c && c <= 'z' }

func digit(c byte) bool { return '0' <= c && c <= '9' }

func letterOrDigit(c byte) bool { return letter(c) || digit(c) }
