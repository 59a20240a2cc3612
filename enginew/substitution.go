package enginew

import (
	"maps"

	"assay/api"
	"assay/types"
)

// substitution tells which type is put for a variable. No variable that it puts something for stands in what it puts.
type substitution map[types.Variable]types.Type

// of is a type with all put for its variables.
func (s substitution) of(t types.Type) types.Type {
	return cut(types.Put(t, s.image))
}

func (s substitution) image(v types.Variable) types.Type {
	if t, put := s[v]; put {
		return t
	}
	return v
}

// then is s and, behind it, next, as one substitution.
func (s substitution) then(next substitution) substitution {
	both := maps.Clone(next)
	for v, t := range s {
		both[v] = next.of(t)
	}
	return both
}

// tooLarge is what a type above MaxSize is made by, once it is cut; no name is this one.
const tooLarge = "too large"

// cut leaves of a type that is too large its variables alone. Such a type is never made one with another, only measured and asked for its variables: and so what a substitution holds stays small, where the types themselves double with every few bytes of a source.
func cut(t types.Type) types.Type {
	if size(t) <= api.MaxSize {
		return t
	}
	whole := types.Made{By: tooLarge}
	for _, v := range types.Variables(t) {
		whole.Parts = append(whole.Parts, v)
	}
	return whole
}

// size is the size of a type, or some size above MaxSize if that is what its own is.
func size(t types.Type) int {
	made, ok := t.(types.Made)
	if !ok {
		return 1
	}
	if made.By == tooLarge {
		return api.MaxSize + 1
	}
	sum := 1
	for _, part := range made.Parts {
		sum += size(part)
	}
	return sum
}
