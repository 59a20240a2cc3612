package writer

import (
	"testing"

	"assay/types"
)

func list(t types.Type) types.Type { return types.Made{By: "List", Parts: []types.Type{t}} }

func function(a, b types.Type) types.Type {
	return types.Made{By: types.Function, Parts: []types.Type{a, b}}
}

func pair(a, b types.Type) types.Type { return types.Made{By: types.Pair, Parts: []types.Type{a, b}} }

// Variables are numbered through all that one closure writes, and anew by another.
func TestTypesAreNumberedThrough(t *testing.T) {
	write := Types()
	for _, c := range []struct {
		t    types.Type
		want string
	}{
		{function(types.Variable(7), types.Variable(3)), "'v0 -> 'v1"},
		{pair(types.Variable(3), types.Variable(0)), "('v1, 'v2)"},
		{list(list(types.Variable(7))), "List (List 'v0)"},
		{types.Variable(-1), "'v3"},
	} {
		if got := write(c.t); got != c.want {
			t.Errorf("%q, want %q", got, c.want)
		}
	}
	if got := Types()(types.Variable(3)); got != "'v0" {
		t.Errorf("a new closure began with %q", got)
	}
}
