package matches

import "assay/tree"

// skeleton is a pattern without low names: a head with its parts, or, without a head, what lets every value by.
type skeleton struct {
	head  head
	parts []skeleton
}

// head is what a value begins with: of which kind of values it is, and at which place in their order.
type head struct {
	kind  string
	place int
}

// The kinds that no source declares; no declared type has such a name.
const (
	none    = "" // of what has no head
	words   = "Bool"
	unit    = "Unit"
	numbers = "Int"
	pairs   = ","
)

// kind is what is known of the heads of one type's values.
type kind struct {
	count int // how many there are
	parts func(place int) int
	write func(place int, parts []tree.Pattern) tree.Pattern
}

// endless is the count of heads of which a match never has all.
const endless = -1

// values are those that a program can have.
type values struct {
	kinds  map[string]kind // by the type's name
	makers map[string]head // by the maker's name
}

func valuesOf(p tree.Program) values {
	v := values{kinds: givenKinds(), makers: map[string]head{}}
	for _, decl := range p.Decls {
		if d, ok := decl.(tree.TypeDecl); ok {
			v.declare(d)
		}
	}
	return v
}

// givenKinds are those that no source declares.
func givenKinds() map[string]kind {
	return map[string]kind{
		words:   {count: 2, parts: always(0), write: writeWord},
		unit:    {count: 1, parts: always(0), write: writeUnit},
		numbers: {count: endless, parts: always(0), write: writeNumber},
		pairs:   {count: 1, parts: always(2), write: writePair},
	}
}

// always is how many parts the heads of a kind have where all have as many.
func always(count int) func(int) int {
	return func(int) int { return count }
}

func writeWord(place int, _ []tree.Pattern) tree.Pattern { return tree.Bool{Value: place == 1} }

func writeUnit(int, []tree.Pattern) tree.Pattern { return tree.Unit{} }

func writeNumber(place int, _ []tree.Pattern) tree.Pattern { return tree.Number{Value: place} }

func writePair(_ int, parts []tree.Pattern) tree.Pattern {
	return tree.PatternPair{Left: parts[0], Right: parts[1]}
}

// declare takes in a declared type: its makers are the heads of its values.
func (v values) declare(d tree.TypeDecl) {
	for place, maker := range d.Makers {
		v.makers[maker.Name.Text] = head{d.Name.Text, place}
	}
	v.kinds[d.Name.Text] = kind{
		count: len(d.Makers),
		parts: func(place int) int { return len(d.Makers[place].Types) },
		write: func(place int, parts []tree.Pattern) tree.Pattern {
			return tree.Made{Name: d.Makers[place].Name, Args: parts}
		},
	}
}

// skeleton is a pattern without its low names.
func (v values) skeleton(p tree.Pattern) skeleton {
	switch p := p.(type) {
	case tree.Bool:
		return skeleton{head: wordHead(p.Value)}
	case tree.Unit:
		return skeleton{head: head{unit, 0}}
	case tree.Number:
		return skeleton{head: head{numbers, p.Value}}
	case tree.PatternPair:
		return v.made(head{pairs, 0}, p.Left, p.Right)
	case tree.Made:
		return v.made(v.makers[p.Name.Text], p.Args...)
	}
	return skeleton{}
}

// wordHead has false ahead of true.
func wordHead(word bool) head {
	if word {
		return head{words, 1}
	}
	return head{words, 0}
}

func (v values) made(h head, parts ...tree.Pattern) skeleton {
	s := skeleton{head: h}
	for _, part := range parts {
		s.parts = append(s.parts, v.skeleton(part))
	}
	return s
}

// pattern is a skeleton as a source could have it.
func (v values) pattern(s skeleton) tree.Pattern {
	if s.head.kind == none {
		return tree.Any{}
	}
	parts := make([]tree.Pattern, len(s.parts))
	for i, part := range s.parts {
		parts[i] = v.pattern(part)
	}
	return v.kinds[s.head.kind].write(s.head.place, parts)
}
