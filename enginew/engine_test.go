package enginew

import (
	"testing"

	"assay/api"
	"assay/tree"
)

// Only the engine's own giving up is caught.
func TestOtherPanicsGoThrough(t *testing.T) {
	one := tree.Number{Value: 1}
	defer func() {
		if recover() == nil {
			t.Errorf("an operator that there is none of was let by")
		}
	}()
	New().Let(tree.Binding{Value: tree.Binary{Op: "?", Left: one, Right: one}})
}

// Behind a declaration without a type, the engine knows what it knew before.
func TestFaultsChangeNothing(t *testing.T) {
	w := New()
	one := tree.Number{Value: 1}
	if _, fault := w.Let(tree.Binding{Name: tree.Name{Text: "x"}, Value: tree.Call{Fun: one, Arg: one}}); fault.Kind != api.ErrType || len(w.names) != 0 {
		t.Errorf("%v, %v", fault, w.names)
	}
	if found, fault := w.Let(tree.Binding{Name: tree.Name{Text: "x"}, Value: one}); fault.Kind != api.OK || found == nil || len(w.names) != 1 {
		t.Errorf("%v, %v, %v", found, fault, w.names)
	}
}
