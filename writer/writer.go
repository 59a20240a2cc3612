// Package writer: programs and types written in one way, with no more parentheses than they need.
package writer

import (
	"strings"

	"assay/tree"
)

// Program writes a program: a line for each declaration.
func Program(p tree.Program) string {
	w := newPen()
	for _, d := range p.Decls {
		w.decl(d)
	}
	return w.out.String()
}

// Pattern writes a pattern as Program does.
func Pattern(p tree.Pattern) string {
	w := newPen()
	w.patternAt(p, wholePattern)
	return w.out.String()
}

// pen puts tokens one behind the other, with the spaces that belong between them.
type pen struct {
	out  strings.Builder
	last string // the token put last, empty at the head of a line

	operators map[string]operatorRule // by the operator's sign
}

func newPen() *pen {
	w := &pen{}
	w.operators = w.operatorRules()
	return w
}

func (w *pen) put(tokens ...string) {
	for _, token := range tokens {
		if spaced(w.last, token) {
			w.out.WriteByte(' ')
		}
		w.out.WriteString(token)
		w.last = token
	}
}

func spaced(last, token string) bool {
	switch token {
	case ")", ",", ";":
		return false
	}
	return last != "" && last != "("
}

func (w *pen) endLine() {
	w.put(";")
	w.out.WriteByte('\n')
	w.last = ""
}

// group puts parentheses around what write puts, if they are needed.
func (w *pen) group(needed bool, write func()) {
	if needed {
		w.put("(")
	}
	write()
	if needed {
		w.put(")")
	}
}

func (w *pen) decl(d tree.Decl) {
	switch d := d.(type) {
	case tree.TypeDecl:
		w.typeDecl(d)
	case tree.LetDecl:
		w.binding(d.Binding)
	}
	w.endLine()
}

func (w *pen) typeDecl(d tree.TypeDecl) {
	w.put("type", d.Name.Text)
	for _, param := range d.Params {
		w.put("'" + param.Text)
	}
	for i, m := range d.Makers {
		w.put(divider(i, "="))
		w.named(m.Name, m.Types)
	}
}

// divider is what stands ahead of a list's i-th part: first ahead of them all, a `|` between each two.
func divider(i int, first string) string {
	if i == 0 {
		return first
	}
	return "|"
}

func (w *pen) binding(b tree.Binding) {
	w.put("let")
	if b.Rec {
		w.put("rec")
	}
	w.put(b.Name.Text, "=")
	w.exprAt(b.Value, loose)
}
