package enginej

import (
	"assay/nodes"
	"assay/tree"
	"assay/types"
)

// pattern is the type of a pattern; it adds the low names that the pattern gives.
func (j *Engine) pattern(gives names, p tree.Pattern) *nodes.Node {
	switch p := p.(type) {
	case tree.Any:
		return j.variable()
	case tree.Low:
		v := j.variable()
		gives[p.Name] = v
		return v
	case tree.Number:
		return j.node(types.Int())
	case tree.Bool:
		return j.node(types.Bool())
	case tree.Unit:
		return j.node(types.Unit())
	case tree.PatternPair:
		left := j.pattern(gives, p.Left)
		return j.pairOf(left, j.pattern(gives, p.Right))
	case tree.Made:
		return j.made(gives, p)
	}
	return nil
}

func (j *Engine) made(gives names, p tree.Made) *nodes.Node {
	maker := j.makers[p.Name.Text]
	anew := j.anew()
	for i, arg := range p.Args {
		t := j.pattern(gives, arg)
		equal(t, nodes.Of(maker.Takes[i], j.level, anew), arg.Place())
	}
	return nodes.Of(maker.Makes, j.level, anew)
}
