package nodes

import (
	"testing"

	"assay/types"
)

// grove makes nodes at levels.
type grove struct {
	fresh func() types.Variable
}

func (g grove) at(level int) *Node { return Variable(g.fresh(), level) }

func pair(level int, left, right *Node) *Node { return Made(types.Pair, level, left, right) }

// What is joined is no deeper than the less deep of both, down to its parts.
func TestJoinLowers(t *testing.T) {
	g := grove{types.Fresh()}
	for _, turned := range []bool{false, true} {
		outer, a, b := g.at(1), g.at(3), g.at(2)
		inner := pair(3, a, pair(3, b, g.at(0)))
		if turned {
			Join(inner, outer)
		} else {
			Join(outer, inner)
		}
		if a.head().level != 1 || b.head().level != 1 || outer.head().level != 1 || inner.head().level != 1 || inner.parts[1].head().level != 1 {
			t.Errorf("levels %d, %d, %d", a.head().level, b.head().level, inner.head().level)
		}
		if n := inner.parts[1].parts[1]; n.level != 0 {
			t.Errorf("level 0 became %d", n.level)
		}
	}
	left, right := pair(1, g.at(1), g.at(0)), pair(4, g.at(4), g.at(4))
	if !Join(left, right) || right.parts[0].head().level != 1 || right.parts[1].head().level != 0 || right.head().level != 1 {
		t.Errorf("levels %d, %d", right.parts[0].head().level, right.parts[1].head().level)
	}
	x, y := g.at(2), g.at(5)
	if !Join(x, y) || x.head().level != 2 || y.head().level != 2 {
		t.Errorf("levels %d, %d", x.head().level, y.head().level)
	}
}

func TestLower(t *testing.T) {
	g := grove{types.Fresh()}
	a, b := g.at(5), g.at(1)
	n := pair(5, a, b)
	n.Lower(3)
	if n.level != 3 || a.level != 3 || b.level != 1 {
		t.Errorf("levels %d, %d, %d", n.level, a.level, b.level)
	}
	n.Lower(4)
	if n.level != 3 || a.level != 3 || b.level != 1 {
		t.Errorf("levels %d, %d, %d", n.level, a.level, b.level)
	}
}

// An instance has new variables for those that were deeper, one for each, and shares the others.
func TestInstance(t *testing.T) {
	g := grove{types.Fresh()}
	deep, other, held := g.at(2), g.at(3), g.at(1)
	fixed := pair(1, held, held)
	n := pair(3, pair(3, deep, other), pair(3, deep, fixed))
	n.Free(1)
	one := n.Instance(7, func() *Node { return g.at(7) })
	two := n.Instance(7, func() *Node { return g.at(7) })
	left, right := one.parts[0], one.parts[1]
	if left.parts[0] != right.parts[0] || left.parts[0] == left.parts[1] || left.parts[0] == deep || left.parts[1] == other {
		t.Errorf("variables are not put one for one")
	}
	if right.parts[1] != fixed || two.parts[1].parts[1] != fixed {
		t.Errorf("what is not any was made again")
	}
	if left.parts[0] == two.parts[0].parts[0] || one == two {
		t.Errorf("two instances share what is any")
	}
	for _, made := range []*Node{one, left, right, left.parts[0], left.parts[1]} {
		if made.level != 7 {
			t.Errorf("level %d", made.level)
		}
	}
	if !Join(left.parts[0], Made("Int", 7)) || deep.head().by != "" || two.parts[0].parts[0].head().by != "" {
		t.Errorf("a join in one instance is seen elsewhere")
	}
}

// What is not deeper than the level stays as it is.
func TestFree(t *testing.T) {
	g := grove{types.Fresh()}
	a, b := g.at(2), g.at(3)
	n := pair(3, a, b)
	n.Free(2)
	if a.level != 2 || b.level != anyLevel || n.level != anyLevel {
		t.Errorf("levels %d, %d, %d", a.level, b.level, n.level)
	}
	m := pair(2, a, a)
	m.Free(2)
	if a.level != 2 || m.level != 2 || m.Instance(5, nil) != m {
		t.Errorf("levels %d, %d", a.level, m.level)
	}
}

// Types of many parts on few nodes are gone through node by node.
func TestLevelsOfWhatDoubles(t *testing.T) {
	g := grove{types.Fresh()}
	n := g.at(9)
	for range 100 {
		n = pair(9, n, n)
	}
	n.Lower(8)
	n.Free(1)
	made := n.Instance(3, func() *Node { return g.at(3) })
	if size, ends := made.Size(48); size != 49 || !ends || made.level != 3 {
		t.Errorf("%d, %v, level %d", size, ends, made.level)
	}
}
