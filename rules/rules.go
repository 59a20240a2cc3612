// Package rules: what both engines hold to: what is a value, what makers and operators make, and how it is told that there is no type.
package rules

import (
	"assay/api"
	"assay/tree"
	"assay/types"
)

// Fault is why no type was found; Left and Right are those that could not become one, if it is of the kind ErrType.
type Fault struct {
	api.Fault
	Left, Right types.Type
}

// TooLarge is the fault of a part that has too large a type, or would be given one.
func TooLarge(part tree.Span) Fault {
	return Fault{Fault: api.Fault{Kind: api.ErrSize, From: part.From, To: part.To}}
}

// Apart is the fault of a part at which two types can't become one.
func Apart(part tree.Span, left, right types.Type) Fault {
	return Fault{
		Fault: api.Fault{Kind: api.ErrType, From: part.From, To: part.To},
		Left:  left,
		Right: right,
	}
}

// Results tells of each operator what comes of it; both its sides are numbers.
func Results() map[string]func() types.Type {
	return map[string]func() types.Type{
		"+": types.Int,
		"-": types.Int,
		"*": types.Int,
		"<": types.Bool,
	}
}
