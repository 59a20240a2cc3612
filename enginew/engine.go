// Package enginew: the engine W, which threads substitutions. What is known goes into each rule, and what is known then comes out of it; no variable ever changes.
package enginew

import (
	"maps"

	"assay/api"
	"assay/rules"
	"assay/tree"
	"assay/types"
)

// Engine finds the types of a program's declarations, one after the other.
type Engine struct {
	fresh   func() types.Variable
	results map[string]func() types.Type // by the operator
	makers  map[string]rules.Maker
	names   names
}

// New is an engine that knows of no declaration.
func New() *Engine {
	return &Engine{
		fresh:   types.Fresh(),
		results: rules.Results(),
		makers:  map[string]rules.Maker{},
		names:   names{},
	}
}

// Makers takes in the makers of a declared type.
func (w *Engine) Makers(d tree.TypeDecl) {
	maps.Copy(w.makers, rules.Makers(d))
}

// giveUp is what the engine panics with: nothing else is caught.
type giveUp struct {
	fault rules.Fault
}

// Let finds the type of a declared let and takes it in; or it tells why there is none.
func (w *Engine) Let(b tree.Binding) (found types.Type, fault rules.Fault) {
	defer func() {
		caught := recover()
		if caught == nil {
			return
		}
		stop, own := caught.(giveUp)
		if !own {
			panic(caught)
		}
		fault = stop.fault
	}()
	t, known := w.bound(substitution{}, w.names, b)
	t = known.of(t)
	if size(t) > api.MaxSize {
		panic(giveUp{rules.TooLarge(b.Name.Span)})
	}
	if !rules.IsValue(b.Value) {
		t = types.Closed(t)
	}
	w.names = w.names.with(b.Name.Text, scheme{of: t, any: types.Variables(t)})
	return t, rules.Fault{}
}

// equal adds to what is known that two types are one, which a part asks for.
func equal(known substitution, a, b types.Type, part tree.Span) substitution {
	a, b = known.of(a), known.of(b)
	if max(size(a), size(b)) > api.MaxSize {
		panic(giveUp{rules.TooLarge(part)})
	}
	more, ok := unify(a, b)
	if !ok {
		panic(giveUp{rules.Apart(part, a, b)})
	}
	return known.then(more)
}
