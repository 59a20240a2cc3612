package nodes

import (
	"testing"

	"assay/reader"
	"assay/types"
	"assay/writer"
)

// planter reads types to nodes; one name is one variable in all of them.
func planter(t *testing.T) func(text string) *Node {
	name, variable := types.Names(types.Fresh()), Variables(0)
	return func(text string) *Node {
		t.Helper()
		read, fault := reader.Type(text)
		if fault.Kind != 0 {
			t.Fatalf("%q: %v", text, fault)
		}
		return Of(types.Of(read, name), 0, variable)
	}
}

func written(n *Node) string { return writer.Types()(n.Type()) }

func TestJoin(t *testing.T) {
	node := planter(t)
	a, b, c := node("'a"), node("'b"), node("'c")
	if !Join(a, b) || !Join(c, node("L 'a")) || written(c) != "L 'v0" {
		t.Fatalf("'c is %q", written(c))
	}
	if !Join(b, node("Int")) || written(a) != "Int" || written(c) != "L Int" {
		t.Errorf("'a is %q, 'c is %q", written(a), written(c))
	}
	if Join(a, node("Bool")) || Join(c, node("M 'd")) || Join(c, node("L 'd 'e")) {
		t.Errorf("joined what is made in two ways")
	}
}

// Every node of a long row of joins answers the same head, and has but one step to it once it was asked.
func TestWaysGetShorter(t *testing.T) {
	const length = 64
	row := make([]*Node, length)
	for i := range row {
		row[i] = &Node{variable: types.Variable(i)}
		if i > 0 {
			row[i-1].nearer = row[i]
		}
	}
	for range 10 {
		for _, n := range row {
			if n.head() != row[length-1] {
				t.Fatal("another head")
			}
		}
	}
	for i, n := range row[:length-1] {
		if n.nearer != row[length-1] {
			t.Errorf("node %d is still on a long way", i)
		}
	}
}

func TestSize(t *testing.T) {
	node := planter(t)
	for _, c := range []struct {
		text string
		most int
		want int
	}{
		{"'a", 48, 1},
		{"Int", 48, 1},
		{"'a -> (Int, L 'a)", 48, 6},
		{"'a -> (Int, L 'a)", 6, 6},
		{"'a -> (Int, L 'a)", 5, 6},
		{"'a -> (Int, L 'a)", 3, 4},
	} {
		if size, ends := node(c.text).Size(c.most); size != c.want || !ends {
			t.Errorf("%q: %d, %v, want %d", c.text, size, ends, c.want)
		}
	}
}

// A type that holds itself is told by Size, also when it is too large before that shows.
func TestTypesThatHoldThemselves(t *testing.T) {
	for _, c := range []struct{ a, b string }{
		{"'a", "L 'a"},
		{"('a, 'b)", "(L 'b, L 'a)"},
		{"T 'a 'b 'a", "T (L 'a) (L 'b) 'b"},
		{"('x, 'a)", "(T Int Int Int Int Int, L 'a)"},
		{"('a, L ('a))", "(L 'a, 'a)"},
		{"('a, 'a)", "(('a, Int), ('b, Int))"},
	} {
		node := planter(t)
		a, b := node(c.a), node(c.b)
		if !Join(a, b) {
			t.Errorf("%q and %q: not joined", c.a, c.b)
		}
		for _, n := range []*Node{a, b} {
			if _, ends := n.Size(3); ends {
				t.Errorf("%q and %q: Size says that it ends", c.a, c.b)
			}
		}
	}
}
