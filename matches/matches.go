// Package matches: what the matches of a program leave out, and which of their arms are never reached.
package matches

import (
	"cmp"
	"slices"

	"assay/api"
	"assay/tree"
	"assay/writer"
)

// Warns tells of all matches of a program that has types.
func Warns(p tree.Program) []api.Warn {
	v := valuesOf(p)
	var warns []api.Warn
	for _, decl := range p.Decls {
		if d, ok := decl.(tree.LetDecl); ok {
			eachMatch(d.Value, func(m tree.Match) {
				warns = append(warns, v.warns(m)...)
			})
		}
	}
	slices.SortFunc(warns, inOrder)
	return warns
}

// inOrder has what begins further left first, and of what begins at one place the longer.
func inOrder(a, b api.Warn) int {
	return cmp.Or(cmp.Compare(a.From, b.From), cmp.Compare(b.To, a.To))
}

// warns tells of one match.
func (v values) warns(m tree.Match) []api.Warn {
	var list []api.Warn
	var before []row
	for _, arm := range m.Arms {
		own := row{v.skeleton(arm.Pattern)}
		if _, reached := v.leftOut(before, own); !reached {
			list = append(list, warn(api.Shut, arm.Pattern.Place(), ""))
		}
		before = append(before, own)
	}
	if found, open := v.leftOut(before, row{{}}); open {
		list = append(list, warn(api.Open, m.Span, writer.Pattern(v.pattern(found[0]))))
	}
	return list
}

func warn(kind int, at tree.Span, witness string) api.Warn {
	return api.Warn{Kind: kind, From: at.From, To: at.To, Witness: witness}
}
