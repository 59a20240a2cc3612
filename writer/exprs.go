package writer

import (
	"strconv"

	"assay/tree"
)

// level is how tightly an expression holds together without parentheses around it, and how tightly one must at a place.
type level int

const (
	loose level = iota // what the grammar calls expr
	sum
	product
	call
	atom
)

// operatorRule writes an operator and its sides, at a place where an expression must hold together that tightly.
type operatorRule func(b tree.Binary, least level)

// Operators are read from the left, so a right side must hold more tightly than its operator; `<` stands but once.
func (w *pen) operatorRules() map[string]operatorRule {
	return map[string]operatorRule{
		"<": w.operator(loose, sum, sum),
		"+": w.operator(sum, sum, product),
		"-": w.operator(sum, sum, product),
		"*": w.operator(product, product, call),
	}
}

// operator is the rule of an operator, by how tightly it holds and how tightly each of its sides must.
func (w *pen) operator(own, left, right level) operatorRule {
	return func(b tree.Binary, least level) {
		w.group(own < least, func() {
			w.exprAt(b.Left, left)
			w.put(b.Op)
			w.exprAt(b.Right, right)
		})
	}
}

func levelOf(e tree.Expr) level {
	switch e.(type) {
	case tree.Fun, tree.Let, tree.If, tree.Match:
		return loose
	case tree.Call:
		return call
	}
	return atom
}

func (w *pen) exprAt(e tree.Expr, least level) {
	if b, ok := e.(tree.Binary); ok {
		w.operators[b.Op](b, least)
		return
	}
	w.group(levelOf(e) < least, func() { w.bareExpr(e) })
}

func (w *pen) bareExpr(e tree.Expr) {
	switch e := e.(type) {
	case tree.Fun:
		w.put("fun", e.Param.Text, "->")
		w.exprAt(e.Body, loose)
	case tree.Let:
		w.binding(e.Binding)
		w.put("in")
		w.exprAt(e.Body, loose)
	case tree.If:
		w.put("if")
		w.exprAt(e.Test, loose)
		w.put("then")
		w.exprAt(e.Yes, loose)
		w.put("else")
		w.exprAt(e.No, loose)
	case tree.Match:
		w.match(e)
	case tree.Call:
		w.exprAt(e.Fun, call)
		w.exprAt(e.Arg, atom)
	default:
		w.atom(e)
	}
}

func (w *pen) match(m tree.Match) {
	w.put("match")
	w.exprAt(m.Subject, loose)
	for i, arm := range m.Arms {
		w.put(divider(i, "with"))
		w.patternAt(arm.Pattern, wholePattern)
		w.put("->")
		w.exprAt(arm.Body, loose)
	}
	w.put("end")
}

func (w *pen) atom(e tree.Expr) {
	switch e := e.(type) {
	case tree.Low:
		w.put(e.Name)
	case tree.Up:
		w.put(e.Name)
	case tree.Number:
		w.put(strconv.Itoa(e.Value))
	case tree.Bool:
		w.put(strconv.FormatBool(e.Value))
	case tree.Unit:
		w.put("(", ")")
	case tree.Pair:
		w.put("(")
		w.exprAt(e.Left, loose)
		w.put(",")
		w.exprAt(e.Right, loose)
		w.put(")")
	case tree.Typed:
		w.put("(")
		w.exprAt(e.Body, loose)
		w.put(":")
		w.typeAt(e.Type, anyType)
		w.put(")")
	}
}
