package reader

import "assay/tree"

func (r *reader) pattern() tree.Pattern {
	if r.token.kind != up {
		return one(r, r.plains)
	}
	name := r.name(up)
	args := many(r, r.plains)
	return tree.Made{Span: r.since(name.From), Name: name, Args: args}
}

func (r *reader) plainRules() map[kind]func() tree.Pattern {
	return map[kind]func() tree.Pattern{
		"_":     r.anything,
		low:     func() tree.Pattern { return r.lowName() },
		up:      r.bareMaker,
		number:  func() tree.Pattern { return r.number() },
		"true":  func() tree.Pattern { return r.truth() },
		"false": func() tree.Pattern { return r.truth() },
		"(":     r.patternGroup,
	}
}

func (r *reader) anything() tree.Pattern {
	return tree.Any{Span: r.take("_").Span}
}

func (r *reader) bareMaker() tree.Pattern {
	name := r.name(up)
	return tree.Made{Span: name.Span, Name: name}
}

// patternGroup reads all that begins with `(`, as group does for expressions.
func (r *reader) patternGroup() tree.Pattern {
	from := r.take("(").From
	if r.took(")") {
		return tree.Unit{Span: r.since(from)}
	}
	left := r.pattern()
	if !r.took(",") {
		r.take(")")
		return left
	}
	right := r.pattern()
	r.take(")")
	return tree.PatternPair{Span: r.since(from), Left: left, Right: right}
}
