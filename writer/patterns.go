package writer

import (
	"strconv"

	"assay/tree"
)

// patternRank is to patterns what typeRank is to types.
type patternRank int

const (
	wholePattern patternRank = iota
	plainPattern
)

func patternRankOf(p tree.Pattern) patternRank {
	if made, ok := p.(tree.Made); ok && len(made.Args) > 0 {
		return wholePattern
	}
	return plainPattern
}

func (w *pen) patternAt(p tree.Pattern, least patternRank) {
	w.group(patternRankOf(p) < least, func() { w.barePattern(p) })
}

func (w *pen) barePattern(p tree.Pattern) {
	switch p := p.(type) {
	case tree.Any:
		w.put("_")
	case tree.Low:
		w.put(p.Name)
	case tree.Number:
		w.put(strconv.Itoa(p.Value))
	case tree.Bool:
		w.put(strconv.FormatBool(p.Value))
	case tree.Unit:
		w.put("(", ")")
	case tree.Made:
		w.put(p.Name.Text)
		for _, arg := range p.Args {
			w.patternAt(arg, plainPattern)
		}
	case tree.PatternPair:
		w.put("(")
		w.patternAt(p.Left, wholePattern)
		w.put(",")
		w.patternAt(p.Right, wholePattern)
		w.put(")")
	}
}
