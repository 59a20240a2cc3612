package enginew

import (
	"maps"
	"slices"

	"assay/types"
)

// scheme is a type and which of its variables are any.
type scheme struct {
	of  types.Type
	any []types.Variable
}

// names tells what each low name stands for at a place.
type names map[string]scheme

// with is the names where one more is given; n stays as it is, for what stands further out.
func (n names) with(name string, s scheme) names {
	return n.withAll(names{name: s})
}

func (n names) withAll(more names) names {
	inner := maps.Clone(n)
	maps.Copy(inner, more)
	return inner
}

// without is the names where one can't be used.
func (n names) without(name string) names {
	rest := maps.Clone(n)
	delete(rest, name)
	return rest
}

// fixed counts the variables that stand in the names' schemes as not any.
func (n names) fixed(known substitution) map[types.Variable]int {
	count := map[types.Variable]int{}
	for _, s := range n {
		for _, v := range types.Variables(known.of(s.of)) {
			if !slices.Contains(s.any, v) {
				count[v]++
			}
		}
	}
	return count
}

// loose are the variables of a type that can be any where these names are given.
func (n names) loose(known substitution, t types.Type) []types.Variable {
	fixed := n.fixed(known)
	return slices.DeleteFunc(types.Variables(t), func(v types.Variable) bool { return fixed[v] > 0 })
}
