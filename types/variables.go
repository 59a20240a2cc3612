package types

// Fresh answers what hands out variables: at each call one that it has not handed out before.
func Fresh() func() Variable {
	count := 0
	return func() Variable {
		count++
		return Variable(count)
	}
}

// Names answers what tells the variable of a name: a fresh one when the name first comes, the same one ever after.
func Names(fresh func() Variable) func(name string) Type {
	known := map[string]Variable{}
	return func(name string) Type {
		v, met := known[name]
		if !met {
			v = fresh()
			known[name] = v
		}
		return v
	}
}

// Variables are those of a type, in the order in which they first stand there.
func Variables(t Type) []Variable {
	var list []Variable
	met := map[Variable]int{}
	Put(t, func(v Variable) Type {
		if met[v]++; met[v] == 1 {
			list = append(list, v)
		}
		return v
	})
	return list
}

// Put is the type with other types put for its variables; image tells which.
func Put(t Type, image func(Variable) Type) Type {
	switch t := t.(type) {
	case Variable:
		return image(t)
	case Made:
		parts := make([]Type, len(t.Parts))
		for i, part := range t.Parts {
			parts[i] = Put(part, image)
		}
		return Made{By: t.By, Parts: parts}
	}
	return nil
}

// Closed is the type with Unit put for each variable.
func Closed(t Type) Type {
	return Put(t, func(Variable) Type { return Unit() })
}
