package writer

import "assay/tree"

// typeRank is what the grammar calls a type that has no parentheses around it; a place that takes one rank takes those above it too.
type typeRank int

const (
	anyType typeRank = iota
	bigType
	smallType
)

func rankOf(t tree.Type) typeRank {
	switch t := t.(type) {
	case tree.Arrow:
		return anyType
	case tree.Named:
		if len(t.Args) > 0 {
			return bigType
		}
	}
	return smallType
}

func (w *pen) typeAt(t tree.Type, least typeRank) {
	w.group(rankOf(t) < least, func() { w.bareType(t) })
}

func (w *pen) bareType(t tree.Type) {
	switch t := t.(type) {
	case tree.TypeVar:
		w.put("'" + t.Name)
	case tree.Named:
		w.named(t.Name, t.Args)
	case tree.TypePair:
		w.put("(")
		w.typeAt(t.Left, anyType)
		w.put(",")
		w.typeAt(t.Right, anyType)
		w.put(")")
	case tree.Arrow:
		w.typeAt(t.Left, bigType)
		w.put("->")
		w.typeAt(t.Right, anyType)
	}
}

// named writes a type's or a maker's name and the types behind it.
func (w *pen) named(name tree.Name, types []tree.Type) {
	w.put(name.Text)
	for _, t := range types {
		w.typeAt(t, smallType)
	}
}
