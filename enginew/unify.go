package enginew

import (
	"slices"

	"assay/types"
)

// unify is the most general substitution by which two types become one, if there is one.
func unify(a, b types.Type) (substitution, bool) {
	found := solution{}
	if !found.solve(a, b) {
		return nil, false
	}
	return found.closed(), true
}

// solution tells what must be put for a variable, where more may have to be put in that in turn: written out while it grows, it would double with every variable.
type solution map[types.Variable]types.Type

// head is a type as far as it is known what it is, or is made by.
func (s solution) head(t types.Type) types.Type {
	for {
		v, ok := t.(types.Variable)
		if !ok {
			return t
		}
		put, known := s[v]
		if !known {
			return t
		}
		t = put
	}
}

// solve adds what must be put for two types to become one; it answers whether that can be.
func (s solution) solve(a, b types.Type) bool {
	a, b = s.head(a), s.head(b)
	if v, ok := a.(types.Variable); ok {
		return s.put(v, b)
	}
	if v, ok := b.(types.Variable); ok {
		return s.put(v, a)
	}
	left, right := a.(types.Made), b.(types.Made)
	if left.By != right.By || len(left.Parts) != len(right.Parts) {
		return false
	}
	for i := range left.Parts {
		if !s.solve(left.Parts[i], right.Parts[i]) {
			return false
		}
	}
	return true
}

// put puts a type for a variable that nothing is put for, unless the type would then hold itself.
func (s solution) put(v types.Variable, t types.Type) bool {
	if same, ok := t.(types.Variable); ok && same == v {
		return true
	}
	if s.holds(t, v) {
		return false
	}
	s[v] = t
	return true
}

// holds tells whether a variable stands in a type.
func (s solution) holds(t types.Type, v types.Variable) bool {
	return slices.ContainsFunc(types.Variables(t), func(inner types.Variable) bool {
		put, known := s[inner]
		return inner == v || known && s.holds(put, v)
	})
}

// closed is the solution as a substitution.
func (s solution) closed() substitution {
	whole := substitution{}
	for v := range s {
		s.closeInto(whole, v)
	}
	return whole
}

// closeInto adds what is put for a variable in the end, and answers it.
func (s solution) closeInto(whole substitution, v types.Variable) types.Type {
	if t, met := whole[v]; met {
		return t
	}
	put, known := s[v]
	if !known {
		return v
	}
	t := cut(types.Put(put, func(inner types.Variable) types.Type { return s.closeInto(whole, inner) }))
	whole[v] = t
	return t
}
