package nodes

import "math"

// The level of a node tells how deep inside lets it came to be, or the least deep one that it has to do with since. No part of a type is deeper than the type: so one that is not deep enough need not be gone through.

// anyLevel is the level of what is any: deeper than all other.
const anyLevel = math.MaxInt

// Lower brings a type, and with it its parts, up to a level that is less deep.
func (n *Node) Lower(level int) {
	n = n.head()
	if n.level <= level {
		return
	}
	n.level = level
	for _, part := range n.parts {
		part.Lower(level)
	}
}

// Free makes those variables any that are deeper than a level: nothing outside knows of them.
func (n *Node) Free(level int) {
	n = n.head()
	if n.level <= level || n.level == anyLevel {
		return
	}
	n.level = anyLevel
	for _, part := range n.parts {
		part.Free(level)
	}
}

// Instance is the type with new variables, which come at a level, for those that are any. What has no such part is not made again.
func (n *Node) Instance(level int, variable func() *Node) *Node {
	return copier{level: level, variable: variable, copies: map[*Node]*Node{}}.instance(n)
}

type copier struct {
	level    int
	variable func() *Node
	copies   map[*Node]*Node // by the heads of what was met
}

func (c copier) instance(n *Node) *Node {
	n = n.head()
	if n.level != anyLevel {
		return n
	}
	if made, met := c.copies[n]; met {
		return made
	}
	made := c.made(n)
	c.copies[n] = made
	return made
}

func (c copier) made(n *Node) *Node {
	if n.by == "" {
		return c.variable()
	}
	parts := make([]*Node, len(n.parts))
	for i, part := range n.parts {
		parts[i] = c.instance(part)
	}
	return Made(n.by, c.level, parts...)
}
