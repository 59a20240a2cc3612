package enginej

import (
	"testing"

	"assay/api"
	"assay/reader"
	"assay/tree"
	"assay/writer"
)

// Only the engine's own giving up is caught.
func TestOtherPanicsGoThrough(t *testing.T) {
	one := tree.Number{Value: 1}
	defer func() {
		if recover() == nil {
			t.Errorf("an operator that there is none of was let by")
		}
	}()
	New().Let(tree.Binding{Value: tree.Binary{Op: "?", Left: one, Right: one}})
}

// The engine comes back to where it was: names inside are gone, and so is the depth.
func TestLetComesBack(t *testing.T) {
	const source = "let a=fun x->let rec f=fun y->let z=(x,y)in match z with(p,q)->z end in let g=f in(g 1,g true);"
	program, fault := reader.Program(source)
	if fault.Kind != api.OK {
		t.Fatal(fault)
	}
	j := New()
	found, refused := j.Let(program.Decls[0].(tree.LetDecl).Binding)
	if refused.Kind != api.OK || writer.Types()(found) != "'v0 -> (('v0, Int), ('v0, Bool))" {
		t.Errorf("%v, %v", found, refused)
	}
	if len(j.given) != 1 || j.level != 0 {
		t.Errorf("%v, level %d", j.given, j.level)
	}
}
