// Package enginej: the engine J, which joins nodes in place. What is known lies in the nodes themselves, and levels tell which variables are any.
package enginej

import (
	"maps"

	"assay/api"
	"assay/nodes"
	"assay/rules"
	"assay/tree"
	"assay/types"
)

// Engine finds the types of a program's declarations, one after the other.
type Engine struct {
	fresh   func() types.Variable
	results map[string]func() types.Type // by the operator
	makers  map[string]rules.Maker
	given   names
	level   int // how deep inside what names are let be
}

// names tells what each low name stands for at a place: its type, and by the levels in it what is any.
type names map[string]*nodes.Node

// New is an engine that knows of no declaration.
func New() *Engine {
	return &Engine{
		fresh:   types.Fresh(),
		results: rules.Results(),
		makers:  map[string]rules.Maker{},
		given:   names{},
	}
}

// Makers takes in the makers of a declared type.
func (j *Engine) Makers(d tree.TypeDecl) {
	maps.Copy(j.makers, rules.Makers(d))
}

// giveUp is what the engine panics with: nothing else is caught.
type giveUp struct {
	fault rules.Fault
}

// Let finds the type of a declared let and takes it in; or it tells why there is none, and then the engine is of no more use.
func (j *Engine) Let(b tree.Binding) (found types.Type, fault rules.Fault) {
	defer func() {
		caught := recover()
		if caught == nil {
			return
		}
		stop, own := caught.(giveUp)
		if !own {
			panic(caught)
		}
		fault = stop.fault
	}()
	t := j.bound(b)
	measure(t, b.Name.Span)
	if !rules.IsValue(b.Value) {
		t = j.node(types.Closed(t.Type()))
	}
	j.given[b.Name.Text] = t
	return t.Type(), rules.Fault{}
}

// measure gives up if a part's type is too large.
func measure(t *nodes.Node, part tree.Span) {
	if size, _ := t.Size(api.MaxSize); size > api.MaxSize {
		panic(giveUp{rules.TooLarge(part)})
	}
}

// equal joins two types that must be one, which a part asks for. They are written down ahead of it, since a join that fails leaves its traces.
func equal(a, b *nodes.Node, part tree.Span) {
	measure(a, part)
	measure(b, part)
	left, right := a.Type(), b.Type()
	if !nodes.Join(a, b) || !ends(a) {
		panic(giveUp{rules.Apart(part, left, right)})
	}
}

// ends tells whether a type does not hold itself.
func ends(t *nodes.Node) bool {
	_, ends := t.Size(api.MaxSize)
	return ends
}

// variable is a new variable that is not any.
func (j *Engine) variable() *nodes.Node {
	return nodes.Variable(j.fresh(), j.level)
}

// node is a type without variables as a node.
func (j *Engine) node(t types.Type) *nodes.Node {
	return nodes.Of(t, j.level, nil)
}

func (j *Engine) functionOf(from, to *nodes.Node) *nodes.Node {
	return nodes.Made(types.Function, j.level, from, to)
}

func (j *Engine) pairOf(left, right *nodes.Node) *nodes.Node {
	return nodes.Made(types.Pair, j.level, left, right)
}

// anew answers what tells the node of a maker's variable: a new one when it first comes, the same one ever after.
func (j *Engine) anew() func(types.Variable) *nodes.Node {
	known := map[types.Variable]*nodes.Node{}
	return func(v types.Variable) *nodes.Node {
		n, met := known[v]
		if !met {
			n = j.variable()
			known[v] = n
		}
		return n
	}
}
