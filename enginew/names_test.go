package enginew

import (
	"slices"
	"testing"

	"assay/types"
)

func TestLoose(t *testing.T) {
	read := texts(t)
	variable := func(text string) types.Variable { return read(text).(types.Variable) }
	given := names{
		"x": {of: read("'a")},
		"y": {of: read("('b,'c)"), any: []types.Variable{variable("'b")}},
		"z": {of: read("'d->'d"), any: []types.Variable{variable("'d")}},
	}
	known := substitution{variable("'a"): read("L 'e")}
	got := given.loose(known, read("T 'd 'e 'c 'b 'f 'b"))
	want := []types.Variable{variable("'d"), variable("'b"), variable("'f")}
	if !slices.Equal(got, want) {
		t.Errorf("%v, want %v", got, want)
	}
	if rest := given.without("x"); len(rest) != 2 || len(given) != 3 || !slices.Contains(rest.loose(known, read("'e")), variable("'e")) {
		t.Errorf("%v of %v", rest, given)
	}
}

func TestWith(t *testing.T) {
	read := texts(t)
	outer := names{"x": {of: read("Int")}}
	inner := outer.with("x", scheme{of: read("Bool")}).with("y", scheme{of: read("Unit")})
	if len(outer) != 1 || len(inner) != 2 || outer["x"].of.(types.Made).By != "Int" || inner["x"].of.(types.Made).By != "Bool" {
		t.Errorf("%v, %v", outer, inner)
	}
}
