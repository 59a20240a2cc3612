// Package types: types apart from any source, as they are found, measured and made one.
package types

import "assay/tree"

// Type is a type: a Variable or a Made.
type Type interface {
	isType()
}

// Variable is a variable; two are the same if their numbers are.
type Variable int

// Made is what a type is made by, and of which parts: Function or Pair of two, or a name of the types behind it.
type Made struct {
	By    string
	Parts []Type
}

// No up name is one of these.
const (
	Function = "->"
	Pair     = ","
)

func (Variable) isType() {}
func (Made) isType()     {}

// Int, Bool and Unit are the types that no source declares.

func Int() Type  { return Made{By: "Int"} }
func Bool() Type { return Made{By: "Bool"} }
func Unit() Type { return Made{By: "Unit"} }

// FunctionOf is the type of functions from one type to another.
func FunctionOf(from, to Type) Type {
	return Made{By: Function, Parts: []Type{from, to}}
}

// PairOf is the type of pairs.
func PairOf(left, right Type) Type {
	return Made{By: Pair, Parts: []Type{left, right}}
}

// Size is the size of a type.
func Size(t Type) int {
	size := 1
	if made, ok := t.(Made); ok {
		for _, part := range made.Parts {
			size += Size(part)
		}
	}
	return size
}

// Of is the type that was read; variable tells what each of its variables' names stands for.
func Of(read tree.Type, variable func(name string) Type) Type {
	switch t := read.(type) {
	case tree.TypeVar:
		return variable(t.Name)
	case tree.Arrow:
		return madeOf(Function, variable, t.Left, t.Right)
	case tree.TypePair:
		return madeOf(Pair, variable, t.Left, t.Right)
	case tree.Named:
		return madeOf(t.Name.Text, variable, t.Args...)
	}
	return nil
}

func madeOf(by string, variable func(name string) Type, read ...tree.Type) Type {
	parts := make([]Type, len(read))
	for i, part := range read {
		parts[i] = Of(part, variable)
	}
	return Made{By: by, Parts: parts}
}
