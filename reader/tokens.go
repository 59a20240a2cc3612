package reader

import (
	"strings"

	"assay/api"
	"assay/tree"
)

// kind is what a token is; a word or a sign is a kind of its own, named by its text.
type kind string

// These have blanks in their names, so that no word or sign can be one of them.
const (
	low      kind = "low name"
	up       kind = "up name"
	variable kind = "a variable"
	number   kind = "a number"
	ending   kind = "the end"
)

type token struct {
	tree.Span
	kind kind
	text string
}

var words = [...]string{
	"type", "let", "rec", "in", "fun", "if", "then", "else", "match", "with", "end", "true", "false",
}

// A sign that begins with another one stands ahead of it: a token is as long as it can be.
var signs = [...]string{
	"->", "(", ")", ",", ";", ":", "=", "|", "+", "-", "*", "<", "_",
}

// tokenBehind reads the token that comes next from the place start on.
func tokenBehind(text string, start int) token {
	from := endOf(text, start, isBlank)
	if from == len(text) {
		return token{Span: tree.Span{From: from, To: from}, kind: ending}
	}
	switch first := text[from]; {
	case isLowLetter(first):
		return lowOrWord(text, from)
	case isUpLetter(first):
		return cut(text, from, endOf(text, from, isNameByte), up)
	case isDigit(first):
		return numberToken(text, from)
	case first == '\'':
		return variableToken(text, from)
	}
	return signToken(text, from)
}

func lowOrWord(text string, from int) token {
	to := endOf(text, from, isNameByte)
	if name := text[from:to]; isWord(name) {
		return cut(text, from, to, kind(name))
	}
	return cut(text, from, to, low)
}

func numberToken(text string, from int) token {
	to := endOf(text, from, isDigit)
	if to-from > api.MaxDigits {
		panic(noToken(from, to))
	}
	return cut(text, from, to, number)
}

func variableToken(text string, from int) token {
	name := from + 1
	if name == len(text) || !isLowLetter(text[name]) {
		panic(noToken(from, name))
	}
	to := endOf(text, name, isNameByte)
	if isWord(text[name:to]) {
		panic(noToken(from, to))
	}
	return cut(text, from, to, variable)
}

func signToken(text string, from int) token {
	for _, sign := range signs {
		if strings.HasPrefix(text[from:], sign) {
			return cut(text, from, from+len(sign), kind(sign))
		}
	}
	panic(noToken(from, from+1))
}

func cut(text string, from, to int, k kind) token {
	return token{Span: tree.Span{From: from, To: to}, kind: k, text: text[from:to]}
}

// endOf is the first place from start on whose byte does not belong.
func endOf(text string, start int, belongs func(byte) bool) int {
	to := start
	for to < len(text) && belongs(text[to]) {
		to++
	}
	return to
}

func isWord(name string) bool {
	for _, word := range words {
		if name == word {
			return true
		}
	}
	return false
}

func isBlank(b byte) bool     { return b == ' ' || b == '\n' }
func isLowLetter(b byte) bool { return 'a' <= b && b <= 'z' }
func isUpLetter(b byte) bool  { return 'A' <= b && b <= 'Z' }
func isDigit(b byte) bool     { return '0' <= b && b <= '9' }
func isNameByte(b byte) bool  { return isLowLetter(b) || isUpLetter(b) || isDigit(b) }
