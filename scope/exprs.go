package scope

import (
	"assay/api"
	"assay/tree"
)

func (c *checker) expr(e tree.Expr) {
	switch e := e.(type) {
	case tree.Low:
		if c.lows[e.Name] == 0 {
			c.tell(api.ErrScope, e.Span)
		}
	case tree.Up:
		if !c.makers.has(e.Name) {
			c.tell(api.ErrScope, e.Span)
		}
	case tree.Pair:
		c.exprs(e.Left, e.Right)
	case tree.Typed:
		c.expr(e.Body)
		c.typeOf(e.Type, nil)
	case tree.Fun:
		c.within(one(e.Param), e.Body)
	case tree.Let:
		c.value(e.Binding)
		c.within(one(e.Name), e.Body)
	case tree.If:
		c.exprs(e.Test, e.Yes, e.No)
	case tree.Match:
		c.expr(e.Subject)
		c.arms(e.Arms)
	case tree.Binary:
		c.exprs(e.Left, e.Right)
	case tree.Call:
		c.exprs(e.Fun, e.Arg)
	}
}

func (c *checker) exprs(list ...tree.Expr) {
	for _, e := range list {
		c.expr(e)
	}
}

// value looks at what a name is let be; for rec the name is known there already.
func (c *checker) value(b tree.Binding) {
	if b.Rec {
		c.within(one(b.Name), b.Value)
		return
	}
	c.expr(b.Value)
}

func one(name tree.Name) names {
	return names{name.Text: 1}
}

// within looks at an expression around which these low names are given.
func (c *checker) within(given names, e tree.Expr) {
	for name := range given {
		c.lows[name]++
	}
	c.expr(e)
	for name := range given {
		c.lows[name]--
	}
}

func (c *checker) arms(arms []tree.Arm) {
	for _, arm := range arms {
		given := names{}
		c.pattern(arm.Pattern, given)
		c.within(given, arm.Body)
	}
}

// pattern adds the low names of a pattern to those that its arm is given.
func (c *checker) pattern(p tree.Pattern, given names) {
	switch p := p.(type) {
	case tree.Low:
		if given.has(p.Name) {
			c.tell(api.ErrScope, p.Span)
		}
		given[p.Name] = 1
	case tree.Made:
		if !c.makers.takes(p.Name.Text, len(p.Args)) {
			c.tell(api.ErrScope, p.Name.Span)
		}
		for _, arg := range p.Args {
			c.pattern(arg, given)
		}
	case tree.PatternPair:
		c.pattern(p.Left, given)
		c.pattern(p.Right, given)
	}
}
