package reader

import "assay/tree"

func (r *reader) program() tree.Program {
	return tree.Program{Decls: many(r, r.decls)}
}

func (r *reader) declRules() map[kind]func() tree.Decl {
	return map[kind]func() tree.Decl{
		"type": r.typeDecl,
		"let":  r.letDecl,
	}
}

func (r *reader) typeDecl() tree.Decl {
	from := r.take("type").From
	name := r.name(up)
	var params []tree.Name
	for r.token.kind == variable {
		params = append(params, r.variableName())
	}
	r.take("=")
	makers := barred(r, r.maker)
	r.take(";")
	return tree.TypeDecl{Span: r.since(from), Name: name, Params: params, Makers: makers}
}

func (r *reader) maker() tree.Maker {
	name := r.name(up)
	types := many(r, r.smalls)
	return tree.Maker{Span: r.since(name.From), Name: name, Types: types}
}

func (r *reader) letDecl() tree.Decl {
	from := r.take("let").From
	binding := r.binding()
	r.take(";")
	return tree.LetDecl{Span: r.since(from), Binding: binding}
}

// binding reads what stands behind `let`, up to its `;` or `in`.
func (r *reader) binding() tree.Binding {
	rec := r.took("rec")
	name := r.name(low)
	r.take("=")
	value := r.expr
	if rec {
		value = r.function
	}
	return tree.Binding{Rec: rec, Name: name, Value: value()}
}
