// Package reader: from a text to the program, or the type, that it is; or to the first fault in it.
package reader

import (
	"assay/api"
	"assay/tree"
)

// Program reads a source.
func Program(source string) (tree.Program, api.Fault) {
	return whole(source, (*reader).program)
}

// Type reads the text of a type.
func Type(text string) (tree.Type, api.Fault) {
	return whole(text, (*reader).arrow)
}

// giveUp is what the reader panics with: nothing else is caught.
type giveUp struct {
	fault api.Fault
}

// whole reads all of a text by one rule.
func whole[T any](text string, rule func(*reader) T) (read T, fault api.Fault) {
	if len(text) > api.MaxSource {
		return read, api.Fault{Kind: api.ErrLong}
	}
	defer func() {
		caught := recover()
		if caught == nil {
			return
		}
		stop, own := caught.(giveUp)
		if !own {
			panic(caught)
		}
		fault = stop.fault
	}()
	r := newReader(text)
	result := rule(r)
	r.take(ending)
	return result, api.Fault{}
}

// reader looks at one token. It goes on to the next one only when that token may stand there, so that the fault it tells is the first from the left.
type reader struct {
	text  string
	token token
	taken int // behind the last token taken

	// By the first token: the rules of the grammar among which it alone decides.
	decls  map[kind]func() tree.Decl
	worded map[kind]func() tree.Expr
	atoms  map[kind]func() tree.Expr
	plains map[kind]func() tree.Pattern
	smalls map[kind]func() tree.Type

	// By the operator: the rules for what stands behind a left side.
	comparisons map[kind]operatorRule
	sums        map[kind]operatorRule
	products    map[kind]operatorRule
}

func newReader(text string) *reader {
	r := &reader{text: text}
	r.decls = r.declRules()
	r.worded = r.wordedRules()
	r.atoms = r.atomRules()
	r.plains = r.plainRules()
	r.smalls = r.smallRules()
	r.comparisons = r.comparisonRules()
	r.sums = r.sumRules()
	r.products = r.productRules()
	r.token = tokenBehind(text, 0)
	return r
}

// next takes the token, whatever it is.
func (r *reader) next() token {
	t := r.token
	r.taken = t.To
	r.token = tokenBehind(r.text, t.To)
	return t
}

// take takes a token that must be of the kind k.
func (r *reader) take(k kind) token {
	if r.token.kind != k {
		panic(r.misplaced())
	}
	return r.next()
}

// took takes the token if it is of the kind k.
func (r *reader) took(k kind) bool {
	if r.token.kind != k {
		return false
	}
	r.next()
	return true
}

func (r *reader) name(k kind) tree.Name {
	t := r.take(k)
	return tree.Name{Span: t.Span, Text: t.text}
}

// since is the span of a part that began at from and ends with the last token taken.
func (r *reader) since(from int) tree.Span {
	return tree.Span{From: from, To: r.taken}
}

func (r *reader) misplaced() giveUp {
	return giveUp{api.Fault{Kind: api.ErrSyntax, From: r.token.From, To: r.token.To}}
}

func noToken(from, to int) giveUp {
	return giveUp{api.Fault{Kind: api.ErrLex, From: from, To: to}}
}

// one reads a part that must stand here, by the rule that its first token chooses.
func one[T any](r *reader, rules map[kind]func() T) T {
	rule, ok := rules[r.token.kind]
	if !ok {
		panic(r.misplaced())
	}
	return rule()
}

// many reads parts for as long as the token begins one.
func many[T any](r *reader, rules map[kind]func() T) []T {
	var parts []T
	for {
		rule, ok := rules[r.token.kind]
		if !ok {
			return parts
		}
		parts = append(parts, rule())
	}
}

// barred reads one part or more, with a `|` between each two.
func barred[T any](r *reader, part func() T) []T {
	parts := []T{part()}
	for r.took("|") {
		parts = append(parts, part())
	}
	return parts
}
