// Package nodes: types as nodes that are joined in place. A class of joined nodes stands for one type; its head tells which.
package nodes

import "assay/types"

// Node is a part of a type.
type Node struct {
	nearer   *Node          // a node of its class on the way to the head; nil at the head itself
	level    int            // see levels.go
	variable types.Variable // what it is, if it is made by nothing
	by       string
	parts    []*Node
}

// Variable is the node of a variable.
func Variable(v types.Variable, level int) *Node {
	return &Node{level: level, variable: v}
}

// Made is the node of a type that is made of parts, none of them deeper than it.
func Made(by string, level int, parts ...*Node) *Node {
	return &Node{level: level, by: by, parts: parts}
}

// Of makes nodes of a type; variable tells the node of each of its variables, none of them deeper than level.
func Of(t types.Type, level int, variable func(types.Variable) *Node) *Node {
	switch t := t.(type) {
	case types.Variable:
		return variable(t)
	case types.Made:
		parts := make([]*Node, len(t.Parts))
		for i, part := range t.Parts {
			parts[i] = Of(part, level, variable)
		}
		return Made(t.By, level, parts...)
	}
	return nil
}

// Variables answers what tells the node of a variable: a new one when the variable first comes, the same one ever after.
func Variables(level int) func(types.Variable) *Node {
	known := map[types.Variable]*Node{}
	return func(v types.Variable) *Node {
		n, met := known[v]
		if !met {
			n = Variable(v, level)
			known[v] = n
		}
		return n
	}
}

// head is the node that tells for its whole class; the way to it gets shorter with each walk.
func (n *Node) head() *Node {
	for n.nearer != nil {
		if n.nearer.nearer != nil {
			n.nearer = n.nearer.nearer
		}
		n = n.nearer
	}
	return n
}

// Join makes one class of two, and of their parts, as far as these are made alike; it answers whether they are. It does not ask whether a type comes to hold itself: see Size.
func Join(a, b *Node) bool {
	a, b = a.head(), b.head()
	if a == b {
		return true
	}
	a.Lower(b.level)
	b.Lower(a.level)
	switch {
	case a.by == "":
		a.nearer = b
		return true
	case b.by == "":
		b.nearer = a
		return true
	case a.by != b.by || len(a.parts) != len(b.parts):
		return false
	}
	// Ahead of their parts, so that types that hold themselves come to an end too.
	a.nearer = b
	for i := range a.parts {
		if !Join(a.parts[i], b.parts[i]) {
			return false
		}
	}
	return true
}

// Type is the type that a node stands for; it must not hold itself.
func (n *Node) Type() types.Type {
	n = n.head()
	if n.by == "" {
		return n.variable
	}
	parts := make([]types.Type, len(n.parts))
	for i, part := range n.parts {
		parts[i] = part.Type()
	}
	return types.Made{By: n.by, Parts: parts}
}
