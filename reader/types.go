package reader

import "assay/tree"

// arrow reads what the grammar calls type.
func (r *reader) arrow() tree.Type {
	from := r.token.From
	left := r.big()
	if !r.took("->") {
		return left
	}
	right := r.arrow()
	return tree.Arrow{Span: r.since(from), Left: left, Right: right}
}

func (r *reader) big() tree.Type {
	if r.token.kind != up {
		return one(r, r.smalls)
	}
	name := r.name(up)
	args := many(r, r.smalls)
	return tree.Named{Span: r.since(name.From), Name: name, Args: args}
}

func (r *reader) smallRules() map[kind]func() tree.Type {
	return map[kind]func() tree.Type{
		variable: r.typeVar,
		up:       r.bareName,
		"(":      r.typeGroup,
	}
}

func (r *reader) typeVar() tree.Type {
	name := r.variableName()
	return tree.TypeVar{Span: name.Span, Name: name.Text}
}

// variableName is a variable's name without its `'`, at the place of its whole token.
func (r *reader) variableName() tree.Name {
	t := r.take(variable)
	return tree.Name{Span: t.Span, Text: t.text[1:]}
}

func (r *reader) bareName() tree.Type {
	name := r.name(up)
	return tree.Named{Span: name.Span, Name: name}
}

// typeGroup reads a pair, or a type that has parentheses around it alone.
func (r *reader) typeGroup() tree.Type {
	from := r.take("(").From
	left := r.arrow()
	if !r.took(",") {
		r.take(")")
		return left
	}
	right := r.arrow()
	r.take(")")
	return tree.TypePair{Span: r.since(from), Left: left, Right: right}
}
