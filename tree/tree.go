// Package tree: what programs and types are made of, once they are read.
package tree

// Span is where a part stands in the source: From is its first byte, To the one behind its last.
type Span struct {
	From, To int
}

// Place lets every part that has a span tell it.
func (s Span) Place() Span { return s }

// Name is a name together with the place of its token.
type Name struct {
	Span
	Text string
}

// Program is a program's declarations, in the order of the source.
type Program struct {
	Decls []Decl
}

// Decl is a declaration: TypeDecl or LetDecl.
type Decl interface {
	Place() Span
	isDecl()
}

// TypeDecl is `type Name Params = Makers;`.
type TypeDecl struct {
	Span
	Name   Name
	Params []Name
	Makers []Maker
}

// Maker is one of the makers of a declared type.
type Maker struct {
	Span
	Name  Name
	Types []Type
}

// Binding is what a declared let and a let inside an expression have in common.
type Binding struct {
	Rec   bool
	Name  Name
	Value Expr
}

// LetDecl is `let Name = Value;` or `let rec Name = Value;`.
type LetDecl struct {
	Span
	Binding
}

func (TypeDecl) isDecl() {}
func (LetDecl) isDecl()  {}
