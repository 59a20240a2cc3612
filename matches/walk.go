package matches

import "assay/tree"

// eachMatch visits the matches of an expression, those that stand one within the other too.
func eachMatch(e tree.Expr, visit func(tree.Match)) {
	if m, ok := e.(tree.Match); ok {
		visit(m)
	}
	for _, part := range partsOf(e) {
		eachMatch(part, visit)
	}
}

// partsOf are the expressions that an expression is made of.
func partsOf(e tree.Expr) []tree.Expr {
	switch e := e.(type) {
	case tree.Pair:
		return []tree.Expr{e.Left, e.Right}
	case tree.Typed:
		return []tree.Expr{e.Body}
	case tree.Fun:
		return []tree.Expr{e.Body}
	case tree.Let:
		return []tree.Expr{e.Value, e.Body}
	case tree.If:
		return []tree.Expr{e.Test, e.Yes, e.No}
	case tree.Match:
		parts := []tree.Expr{e.Subject}
		for _, arm := range e.Arms {
			parts = append(parts, arm.Body)
		}
		return parts
	case tree.Binary:
		return []tree.Expr{e.Left, e.Right}
	case tree.Call:
		return []tree.Expr{e.Fun, e.Arg}
	}
	return nil
}
