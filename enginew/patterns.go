package enginew

import (
	"assay/tree"
	"assay/types"
)

// pattern is the type of a pattern, and what is known behind it; it adds the low names that the pattern gives, none any.
func (w *Engine) pattern(known substitution, gives names, p tree.Pattern) (types.Type, substitution) {
	switch p := p.(type) {
	case tree.Any:
		return w.fresh(), known
	case tree.Low:
		v := w.fresh()
		gives[p.Name] = scheme{of: v}
		return v, known
	case tree.Number:
		return types.Int(), known
	case tree.Bool:
		return types.Bool(), known
	case tree.Unit:
		return types.Unit(), known
	case tree.PatternPair:
		left, known := w.pattern(known, gives, p.Left)
		right, known := w.pattern(known, gives, p.Right)
		return types.PairOf(left, right), known
	case tree.Made:
		return w.made(known, gives, p)
	}
	return nil, known
}

func (w *Engine) made(known substitution, gives names, p tree.Made) (types.Type, substitution) {
	maker := w.makers[p.Name.Text]
	anew := w.renamed(maker.Makes)
	for i, arg := range p.Args {
		t, more := w.pattern(known, gives, arg)
		known = equal(more, t, anew.of(maker.Takes[i]), arg.Place())
	}
	return anew.of(maker.Makes), known
}
