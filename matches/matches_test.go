package matches

import (
	"slices"
	"testing"

	"assay/api"
	"assay/reader"
	"assay/tree"
	"assay/writer"
)

// What begins further left comes first, and of what begins at one place the longer.
func TestInOrder(t *testing.T) {
	want := []api.Warn{{From: 1, To: 3}, {From: 2, To: 9}, {From: 2, To: 5}, {From: 2, To: 4}, {From: 7, To: 8}}
	got := slices.Clone(want)
	slices.Reverse(got)
	slices.SortFunc(got, inOrder)
	if !slices.Equal(got, want) {
		t.Errorf("P12: %v, want %v", got, want)
	}
}

func read(t *testing.T, source string) tree.Program {
	t.Helper()
	program, fault := reader.Program(source)
	if fault.Kind != api.OK {
		t.Fatalf("%q: %v", source, fault)
	}
	return program
}

func TestEachMatch(t *testing.T) {
	program := read(t, "let a=match match 1 with 2->2 end with 3->(fun x->match 4 with 4->4 end)|5->(match 6 with 6->6 end,if(match 7 with _->true end)then 8 else 8)end;")
	var froms []int
	eachMatch(program.Decls[0].(tree.LetDecl).Value, func(m tree.Match) { froms = append(froms, m.From) })
	if want := []int{6, 12, 50, 77, 102}; !slices.Equal(froms, want) {
		t.Errorf("P12: %v, want %v", froms, want)
	}
}

// A pattern becomes a skeleton that has `_` for its low names alone.
func TestSkeletons(t *testing.T) {
	const types = "type T=A|B T Int;type U 'a=D 'a|E|F(U 'a)'a;"
	for _, c := range []struct{ pattern, want string }{
		{"_", "_"},
		{"x", "_"},
		{"()", "()"},
		{"true", "true"},
		{"false", "false"},
		{"012", "12"},
		{"(x,(_,3))", "(_, (_, 3))"},
		{"A", "A"},
		{"B x(0)", "B _ 0"},
		{"B(B A y)1", "B (B A _) 1"},
		{"F(D(true,x))E", "F (D (true, _)) E"},
	} {
		program := read(t, types+"let f=match 1 with "+c.pattern+"->1 end;")
		v := valuesOf(program)
		p := program.Decls[2].(tree.LetDecl).Value.(tree.Match).Arms[0].Pattern
		if got := writer.Pattern(v.pattern(v.skeleton(p))); got != c.want {
			t.Errorf("P13: the skeleton of %q is %q, want %q", c.pattern, got, c.want)
		}
	}
}

// Of a list of arms before it, an arm is asked for its own values alone.
func TestLeftOutWithin(t *testing.T) {
	v := valuesOf(tree.Program{})
	no, yes, any := skeleton{head: wordHead(false)}, skeleton{head: wordHead(true)}, skeleton{}
	for _, c := range []struct {
		rows   []row
		within row
		want   bool
	}{
		{nil, row{}, true},
		{[]row{{}}, row{}, false},
		{nil, row{any, yes}, true},
		{[]row{{no, any}}, row{yes, any}, true},
		{[]row{{yes, any}}, row{yes, any}, false},
		{[]row{{yes, any}}, row{any, any}, true},
		{[]row{{yes, no}, {yes, yes}}, row{yes, any}, false},
		{[]row{{yes, no}, {no, yes}}, row{any, yes}, true},
		{[]row{{yes, no}, {no, no}}, row{any, no}, false},
		{[]row{{yes, no}, {any, yes}}, row{any, no}, true},
	} {
		found, ok := v.leftOut(c.rows, c.within)
		if ok != c.want || ok && len(found) != len(c.within) {
			t.Errorf("P13: %v within %v: %v, %v", c.rows, c.within, found, ok)
		}
	}
}
