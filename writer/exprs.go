package writer

import (
	"strconv"

	"assay/tree"
)

// level is how tightly an expression holds together without parentheses around it, and how tightly one must at a place.
type level int

const (
	loose level = iota // what the grammar calls expr
	sum
	product
	call
	atom
)

// operator: its sign, how tightly it holds, and how tightly each of its sides must.
type operator struct {
	sign             string
	own, left, right level
}

// Operators are read from the left, so a right side must hold more tightly than its operator; `<` stands but once.
var operators = [...]operator{
	{sign: "<", own: loose, left: sum, right: sum},
	{sign: "+", own: sum, left: sum, right: product},
	{sign: "-", own: sum, left: sum, right: product},
	{sign: "*", own: product, left: product, right: call},
}

func operatorOf(sign string) operator {
	for _, o := range operators {
		if o.sign == sign {
			return o
		}
	}
	return operator{}
}

func levelOf(e tree.Expr) level {
	switch e := e.(type) {
	case tree.Fun, tree.Let, tree.If, tree.Match:
		return loose
	case tree.Binary:
		return operatorOf(e.Op).own
	case tree.Call:
		return call
	}
	return atom
}

func (w *pen) exprAt(e tree.Expr, least level) {
	w.group(levelOf(e) < least, func() { w.bareExpr(e) })
}

func (w *pen) bareExpr(e tree.Expr) {
	switch e := e.(type) {
	case tree.Fun:
		w.put("fun", e.Param.Text, "->")
		w.exprAt(e.Body, loose)
	case tree.Let:
		w.binding(e.Binding)
		w.put("in")
		w.exprAt(e.Body, loose)
	case tree.If:
		w.put("if")
		w.exprAt(e.Test, loose)
		w.put("then")
		w.exprAt(e.Yes, loose)
		w.put("else")
		w.exprAt(e.No, loose)
	case tree.Match:
		w.match(e)
	case tree.Binary:
		o := operatorOf(e.Op)
		w.exprAt(e.Left, o.left)
		w.put(e.Op)
		w.exprAt(e.Right, o.right)
	case tree.Call:
		w.exprAt(e.Fun, call)
		w.exprAt(e.Arg, atom)
	default:
		w.atom(e)
	}
}

func (w *pen) match(m tree.Match) {
	w.put("match")
	w.exprAt(m.Subject, loose)
	for i, arm := range m.Arms {
		w.put(divider(i, "with"))
		w.patternAt(arm.Pattern, wholePattern)
		w.put("->")
		w.exprAt(arm.Body, loose)
	}
	w.put("end")
}

func (w *pen) atom(e tree.Expr) {
	switch e := e.(type) {
	case tree.Low:
		w.put(e.Name)
	case tree.Up:
		w.put(e.Name)
	case tree.Number:
		w.put(strconv.Itoa(e.Value))
	case tree.Bool:
		w.put(strconv.FormatBool(e.Value))
	case tree.Unit:
		w.put("(", ")")
	case tree.Pair:
		w.put("(")
		w.exprAt(e.Left, loose)
		w.put(",")
		w.exprAt(e.Right, loose)
		w.put(")")
	case tree.Typed:
		w.put("(")
		w.exprAt(e.Body, loose)
		w.put(":")
		w.typeAt(e.Type, anyType)
		w.put(")")
	}
}
