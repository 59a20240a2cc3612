package rules

import "assay/tree"

// IsValue tells whether an expression is a value: nothing is left to be done with it, so its type may be used as any.
func IsValue(e tree.Expr) bool {
	switch e := e.(type) {
	case tree.Low, tree.Up, tree.Number, tree.Bool, tree.Unit, tree.Fun:
		return true
	case tree.Pair:
		return IsValue(e.Left) && IsValue(e.Right)
	case tree.Typed:
		return IsValue(e.Body)
	case tree.Call:
		return isMade(e)
	}
	return false
}

// isMade tells whether a call is one of a maker, or of such a call, with a value.
func isMade(c tree.Call) bool {
	if !IsValue(c.Arg) {
		return false
	}
	switch called := c.Fun.(type) {
	case tree.Up:
		return true
	case tree.Call:
		return isMade(called)
	}
	return false
}
