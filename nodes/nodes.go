// Package nodes: types as nodes that are joined in place. A class of joined nodes stands for one type; its head tells which.
package nodes

import "assay/types"

// Node is a part of a type.
type Node struct {
	nearer   *Node          // a node of its class on the way to the head; nil at the head itself
	variable types.Variable // what it is, if it is made by nothing
	by       string
	parts    []*Node
}

// Of makes nodes of a type; variable tells the node of each of its variables.
func Of(t types.Type, variable func(types.Variable) *Node) *Node {
	switch t := t.(type) {
	case types.Variable:
		return variable(t)
	case types.Made:
		parts := make([]*Node, len(t.Parts))
		for i, part := range t.Parts {
			parts[i] = Of(part, variable)
		}
		return &Node{by: t.By, parts: parts}
	}
	return nil
}

// Variables answers what tells the node of a variable: a new one when the variable first comes, the same one ever after.
func Variables() func(types.Variable) *Node {
	known := map[types.Variable]*Node{}
	return func(v types.Variable) *Node {
		n, met := known[v]
		if !met {
			n = &Node{variable: v}
			known[v] = n
		}
		return n
	}
}

// head is the node that tells for its whole class; the way to it gets shorter with each walk.
func (n *Node) head() *Node {
	for n.nearer != nil {
		if n.nearer.nearer != nil {
			n.nearer = n.nearer.nearer
		}
		n = n.nearer
	}
	return n
}

// Join makes one class of two, and of their parts, as far as these are made alike; it answers whether they are. It does not ask whether a type comes to hold itself: see Size.
func Join(a, b *Node) bool {
	a, b = a.head(), b.head()
	switch {
	case a == b:
		return true
	case a.by == "":
		a.nearer = b
		return true
	case b.by == "":
		b.nearer = a
		return true
	case a.by != b.by || len(a.parts) != len(b.parts):
		return false
	}
	// Ahead of their parts, so that types that hold themselves come to an end too.
	a.nearer = b
	for i := range a.parts {
		if !Join(a.parts[i], b.parts[i]) {
			return false
		}
	}
	return true
}

// Type is the type that a node stands for; it must not hold itself.
func (n *Node) Type() types.Type {
	n = n.head()
	if n.by == "" {
		return n.variable
	}
	parts := make([]types.Type, len(n.parts))
	for i, part := range n.parts {
		parts[i] = part.Type()
	}
	return types.Made{By: n.by, Parts: parts}
}
