package types

// Fresh answers what hands out variables: at each call one that it has not handed out before.
func Fresh() func() Variable {
	count := 0
	return func() Variable {
		count++
		return Variable(count)
	}
}

// Names answers what tells the variable of a name: a fresh one when the name first comes, the same one ever after.
func Names(fresh func() Variable) func(name string) Type {
	known := map[string]Variable{}
	return func(name string) Type {
		v, met := known[name]
		if !met {
			v = fresh()
			known[name] = v
		}
		return v
	}
}
