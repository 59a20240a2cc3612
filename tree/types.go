package tree

// Type is a type as the source has it: TypeVar, Named, TypePair or Arrow.
type Type interface {
	Place() Span
	isType()
}

// TypeVar is a variable; its Name is without the `'`.
type TypeVar struct {
	Span
	Name string
}

// Named is an up name and the types behind it.
type Named struct {
	Span
	Name Name
	Args []Type
}

// TypePair is `(Left, Right)`.
type TypePair struct {
	Span
	Left, Right Type
}

// Arrow is `Left -> Right`.
type Arrow struct {
	Span
	Left, Right Type
}

func (TypeVar) isType()  {}
func (Named) isType()    {}
func (TypePair) isType() {}
func (Arrow) isType()    {}
