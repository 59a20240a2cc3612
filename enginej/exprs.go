package enginej

import (
	"maps"

	"assay/nodes"
	"assay/rules"
	"assay/tree"
	"assay/types"
)

// expr is the type of an expression.
func (j *Engine) expr(e tree.Expr) *nodes.Node {
	switch e := e.(type) {
	case tree.Low:
		return j.low(e)
	case tree.Up:
		return nodes.Of(j.makers[e.Name].Type(), j.level, j.anew())
	case tree.Number:
		return j.node(types.Int())
	case tree.Bool:
		return j.node(types.Bool())
	case tree.Unit:
		return j.node(types.Unit())
	case tree.Pair:
		left := j.expr(e.Left)
		return j.pairOf(left, j.expr(e.Right))
	case tree.Typed:
		return j.typed(e)
	case tree.Fun:
		param := j.variable()
		return j.functionOf(param, j.within(names{e.Param.Text: param}, e.Body))
	case tree.Let:
		t := j.bound(e.Binding)
		return j.within(names{e.Name.Text: t}, e.Body)
	case tree.If:
		return j.choice(e)
	case tree.Match:
		return j.match(e)
	case tree.Binary:
		j.number(e.Left)
		j.number(e.Right)
		return j.node(j.results[e.Op]())
	case tree.Call:
		return j.call(e)
	}
	return nil
}

// within is the type of an expression where these names are given too.
func (j *Engine) within(more names, e tree.Expr) *nodes.Node {
	outer := j.given
	j.given = maps.Clone(outer)
	maps.Copy(j.given, more)
	t := j.expr(e)
	j.given = outer
	return t
}

func (j *Engine) low(e tree.Low) *nodes.Node {
	t := j.given[e.Name]
	measure(t, e.Span)
	return t.Instance(j.level, j.variable)
}

func (j *Engine) typed(e tree.Typed) *nodes.Node {
	body := j.expr(e.Body)
	t := j.node(types.Of(e.Type, nil)) // it has no variables
	equal(body, t, e.Body.Place())
	return t
}

// number finds the type of an expression that must be a number.
func (j *Engine) number(e tree.Expr) {
	equal(j.expr(e), j.node(types.Int()), e.Place())
}

func (j *Engine) choice(e tree.If) *nodes.Node {
	equal(j.expr(e.Test), j.node(types.Bool()), e.Test.Place())
	yes := j.expr(e.Yes)
	no := j.expr(e.No)
	equal(yes, no, e.No.Place())
	return yes
}

func (j *Engine) call(e tree.Call) *nodes.Node {
	called := j.expr(e.Fun)
	arg := j.expr(e.Arg)
	result := j.variable()
	equal(called, j.functionOf(arg, result), e.Span)
	return result
}

// bound is the type of what a name is let be, found one level deeper: what is still that deep behind it, no name outside has to do with.
func (j *Engine) bound(b tree.Binding) *nodes.Node {
	j.level++
	t := j.valueOf(b)
	j.level--
	if rules.IsValue(b.Value) {
		t.Free(j.level)
	} else {
		t.Lower(j.level)
	}
	return t
}

func (j *Engine) valueOf(b tree.Binding) *nodes.Node {
	if !b.Rec {
		return j.expr(b.Value)
	}
	own := j.variable()
	t := j.within(names{b.Name.Text: own}, b.Value)
	equal(own, t, b.Value.Place())
	return t
}

func (j *Engine) match(e tree.Match) *nodes.Node {
	subject := j.expr(e.Subject)
	result := j.variable()
	for _, arm := range e.Arms {
		gives := names{}
		equal(subject, j.pattern(gives, arm.Pattern), arm.Pattern.Place())
		equal(result, j.within(gives, arm.Body), arm.Body.Place())
	}
	return result
}
