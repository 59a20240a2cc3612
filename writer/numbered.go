package writer

import (
	"strconv"

	"assay/tree"
	"assay/types"
)

// Types answers what writes types: the variables are numbered through all that it writes, in the order in which they first stand there.
func Types() func(types.Type) string {
	name := numbering()
	return func(t types.Type) string {
		w := newPen()
		w.typeAt(spelled(t, name), anyType)
		return w.out.String()
	}
}

// numbering counts the variables that it is asked for and answers their names.
func numbering() func(types.Variable) string {
	numbers := map[types.Variable]int{}
	return func(v types.Variable) string {
		number, met := numbers[v]
		if !met {
			number = len(numbers)
			numbers[v] = number
		}
		return "v" + strconv.Itoa(number)
	}
}

// spelled is a type as a source could have it. It goes through the parts in the order in which they are written, since name counts.
func spelled(t types.Type, name func(types.Variable) string) tree.Type {
	switch t := t.(type) {
	case types.Variable:
		return tree.TypeVar{Name: name(t)}
	case types.Made:
		parts := make([]tree.Type, len(t.Parts))
		for i, part := range t.Parts {
			parts[i] = spelled(part, name)
		}
		return spelledMade(t.By, parts)
	}
	return nil
}

func spelledMade(by string, parts []tree.Type) tree.Type {
	switch by {
	case types.Function:
		return tree.Arrow{Left: parts[0], Right: parts[1]}
	case types.Pair:
		return tree.TypePair{Left: parts[0], Right: parts[1]}
	}
	return tree.Named{Name: tree.Name{Text: by}, Args: parts}
}
