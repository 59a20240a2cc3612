package reader

import (
	"strconv"

	"assay/tree"
)

func (r *reader) expr() tree.Expr {
	if rule, ok := r.worded[r.token.kind]; ok {
		return rule()
	}
	return r.comparison()
}

// wordedRules are those of the expressions that begin with a word and are no operand.
func (r *reader) wordedRules() map[kind]func() tree.Expr {
	return map[kind]func() tree.Expr{
		"fun":   r.function,
		"let":   r.letIn,
		"if":    r.choice,
		"match": r.match,
	}
}

func (r *reader) function() tree.Expr {
	from := r.take("fun").From
	param := r.name(low)
	r.take("->")
	body := r.expr()
	return tree.Fun{Span: r.since(from), Param: param, Body: body}
}

func (r *reader) letIn() tree.Expr {
	from := r.take("let").From
	binding := r.binding()
	r.take("in")
	body := r.expr()
	return tree.Let{Span: r.since(from), Binding: binding, Body: body}
}

func (r *reader) choice() tree.Expr {
	from := r.take("if").From
	test := r.expr()
	r.take("then")
	yes := r.expr()
	r.take("else")
	no := r.expr()
	return tree.If{Span: r.since(from), Test: test, Yes: yes, No: no}
}

func (r *reader) match() tree.Expr {
	from := r.take("match").From
	subject := r.expr()
	r.take("with")
	arms := barred(r, r.arm)
	r.take("end")
	return tree.Match{Span: r.since(from), Subject: subject, Arms: arms}
}

func (r *reader) arm() tree.Arm {
	from := r.token.From
	pattern := r.pattern()
	r.take("->")
	body := r.expr()
	return tree.Arm{Span: r.since(from), Pattern: pattern, Body: body}
}

// operatorRule reads an operator and its right side; from is where its left side's tokens began, parentheses and all.
type operatorRule func(from int, left tree.Expr) tree.Expr

func (r *reader) comparisonRules() map[kind]operatorRule {
	return map[kind]operatorRule{
		"<": r.operator(r.sum),
	}
}

func (r *reader) sumRules() map[kind]operatorRule {
	return map[kind]operatorRule{
		"+": r.operator(r.product),
		"-": r.operator(r.product),
	}
}

func (r *reader) productRules() map[kind]operatorRule {
	return map[kind]operatorRule{
		"*": r.operator(r.call),
	}
}

// operator is the rule of an operator whose right side is such an operand.
func (r *reader) operator(operand func() tree.Expr) operatorRule {
	return func(from int, left tree.Expr) tree.Expr {
		op := r.next().text
		right := operand()
		return tree.Binary{Span: r.since(from), Op: op, Left: left, Right: right}
	}
}

func (r *reader) comparison() tree.Expr {
	from := r.token.From
	left := r.sum()
	if rule, ok := r.comparisons[r.token.kind]; ok {
		return rule(from, left)
	}
	return left
}

func (r *reader) sum() tree.Expr {
	return r.fromLeft(r.product, r.sums)
}

func (r *reader) product() tree.Expr {
	return r.fromLeft(r.call, r.products)
}

// fromLeft reads operands with an operator of the rules between each two.
func (r *reader) fromLeft(operand func() tree.Expr, rules map[kind]operatorRule) tree.Expr {
	from := r.token.From
	left := operand()
	for {
		rule, ok := rules[r.token.kind]
		if !ok {
			return left
		}
		left = rule(from, left)
	}
}

func (r *reader) call() tree.Expr {
	from := r.token.From
	called := one(r, r.atoms)
	for {
		rule, ok := r.atoms[r.token.kind]
		if !ok {
			return called
		}
		arg := rule()
		called = tree.Call{Span: r.since(from), Fun: called, Arg: arg}
	}
}

func (r *reader) atomRules() map[kind]func() tree.Expr {
	return map[kind]func() tree.Expr{
		low:     func() tree.Expr { return r.lowName() },
		up:      r.upName,
		number:  func() tree.Expr { return r.number() },
		"true":  func() tree.Expr { return r.truth() },
		"false": func() tree.Expr { return r.truth() },
		"(":     r.group,
	}
}

func (r *reader) lowName() tree.Low {
	name := r.name(low)
	return tree.Low{Span: name.Span, Name: name.Text}
}

func (r *reader) upName() tree.Expr {
	name := r.name(up)
	return tree.Up{Span: name.Span, Name: name.Text}
}

func (r *reader) number() tree.Number {
	t := r.take(number)
	value, _ := strconv.Atoi(t.text) // MaxDigits digits are always an int
	return tree.Number{Span: t.Span, Value: value}
}

func (r *reader) truth() tree.Bool {
	t := r.next()
	return tree.Bool{Span: t.Span, Value: t.kind == "true"}
}

// group reads all that begins with `(`. Parentheses around an expression alone leave no trace.
func (r *reader) group() tree.Expr {
	from := r.take("(").From
	if r.took(")") {
		return tree.Unit{Span: r.since(from)}
	}
	inner := r.expr()
	switch {
	case r.took(","):
		right := r.expr()
		r.take(")")
		return tree.Pair{Span: r.since(from), Left: inner, Right: right}
	case r.took(":"):
		t := r.arrow()
		r.take(")")
		return tree.Typed{Span: r.since(from), Body: inner, Type: t}
	}
	r.take(")")
	return inner
}
