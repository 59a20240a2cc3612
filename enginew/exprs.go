package enginew

import (
	"assay/api"
	"assay/rules"
	"assay/tree"
	"assay/types"
)

// expr is the type of an expression where these names are given, and what is known behind it.
func (w *Engine) expr(known substitution, given names, e tree.Expr) (types.Type, substitution) {
	switch e := e.(type) {
	case tree.Low:
		return w.low(known, given[e.Name], e.Span), known
	case tree.Up:
		return w.renamed(w.makers[e.Name].Makes).of(w.makers[e.Name].Type()), known
	case tree.Number:
		return types.Int(), known
	case tree.Bool:
		return types.Bool(), known
	case tree.Unit:
		return types.Unit(), known
	case tree.Pair:
		return w.pair(known, given, e)
	case tree.Typed:
		return w.typed(known, given, e)
	case tree.Fun:
		return w.function(known, given, e)
	case tree.Let:
		return w.let(known, given, e)
	case tree.If:
		return w.choice(known, given, e)
	case tree.Match:
		return w.match(known, given, e)
	case tree.Binary:
		return w.binary(known, given, e)
	case tree.Call:
		return w.call(known, given, e)
	}
	return nil, known
}

// renamed puts a new variable for each of a type's.
func (w *Engine) renamed(t types.Type) substitution {
	return w.anew(types.Variables(t))
}

// anew puts a new variable for each of these.
func (w *Engine) anew(list []types.Variable) substitution {
	s := substitution{}
	for _, v := range list {
		s[v] = w.fresh()
	}
	return s
}

func (w *Engine) low(known substitution, s scheme, place tree.Span) types.Type {
	t := known.of(s.of)
	if size(t) > api.MaxSize {
		panic(giveUp{rules.TooLarge(place)})
	}
	return w.anew(s.any).of(t)
}

func (w *Engine) pair(known substitution, given names, e tree.Pair) (types.Type, substitution) {
	left, known := w.expr(known, given, e.Left)
	right, known := w.expr(known, given, e.Right)
	return types.PairOf(left, right), known
}

func (w *Engine) typed(known substitution, given names, e tree.Typed) (types.Type, substitution) {
	body, known := w.expr(known, given, e.Body)
	t := types.Of(e.Type, nil) // it has no variables
	return t, equal(known, body, t, e.Body.Place())
}

func (w *Engine) function(known substitution, given names, e tree.Fun) (types.Type, substitution) {
	param := w.fresh()
	body, known := w.expr(known, given.with(e.Param.Text, scheme{of: param}), e.Body)
	return types.FunctionOf(param, body), known
}

func (w *Engine) call(known substitution, given names, e tree.Call) (types.Type, substitution) {
	called, known := w.expr(known, given, e.Fun)
	arg, known := w.expr(known, given, e.Arg)
	result := w.fresh()
	return result, equal(known, called, types.FunctionOf(arg, result), e.Span)
}

func (w *Engine) binary(known substitution, given names, e tree.Binary) (types.Type, substitution) {
	left, known := w.expr(known, given, e.Left)
	known = equal(known, left, types.Int(), e.Left.Place())
	right, known := w.expr(known, given, e.Right)
	known = equal(known, right, types.Int(), e.Right.Place())
	return w.results[e.Op](), known
}

func (w *Engine) choice(known substitution, given names, e tree.If) (types.Type, substitution) {
	test, known := w.expr(known, given, e.Test)
	known = equal(known, test, types.Bool(), e.Test.Place())
	yes, known := w.expr(known, given, e.Yes)
	no, known := w.expr(known, given, e.No)
	return yes, equal(known, yes, no, e.No.Place())
}

func (w *Engine) let(known substitution, given names, e tree.Let) (types.Type, substitution) {
	t, known := w.bound(known, given, e.Binding)
	return w.expr(known, given.with(e.Name.Text, schemeOf(known, given, e.Binding, t)), e.Body)
}

// bound is the type of what a name is let be.
func (w *Engine) bound(known substitution, given names, b tree.Binding) (types.Type, substitution) {
	if !b.Rec {
		return w.expr(known, given, b.Value)
	}
	own := w.fresh()
	t, known := w.expr(known, given.with(b.Name.Text, scheme{of: own}), b.Value)
	return t, equal(known, own, t, b.Value.Place())
}

// schemeOf is the scheme of a name that was let be something of that type.
func schemeOf(known substitution, given names, b tree.Binding, t types.Type) scheme {
	t = known.of(t)
	if !rules.IsValue(b.Value) {
		return scheme{of: t}
	}
	if b.Rec {
		given = given.without(b.Name.Text) // it is hidden behind the name itself
	}
	return scheme{of: t, any: given.loose(known, t)}
}

func (w *Engine) match(known substitution, given names, e tree.Match) (types.Type, substitution) {
	subject, known := w.expr(known, given, e.Subject)
	result := w.fresh()
	for _, arm := range e.Arms {
		inner := names{}
		pattern, more := w.pattern(known, inner, arm.Pattern)
		known = equal(more, subject, pattern, arm.Pattern.Place())
		body, more := w.expr(known, given.withAll(inner), arm.Body)
		known = equal(more, result, body, arm.Body.Place())
	}
	return result, known
}
