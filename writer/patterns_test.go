package writer

import (
	"testing"

	"assay/tree"
)

func made(name string, args ...tree.Pattern) tree.Pattern {
	return tree.Made{Name: tree.Name{Text: name}, Args: args}
}

// Parentheses stand around a maker with patterns behind it where a plain pattern must stand, and nowhere else.
func TestPattern(t *testing.T) {
	one, any := tree.Number{Value: 1}, tree.Any{}
	for _, c := range []struct {
		p    tree.Pattern
		want string
	}{
		{any, "_"},
		{one, "1"},
		{tree.Low{Name: "x"}, "x"},
		{tree.Unit{}, "()"},
		{tree.Bool{Value: true}, "true"},
		{tree.Bool{}, "false"},
		{made("N"), "N"},
		{made("C", any, made("N")), "C _ N"},
		{made("C", made("C", one, any), tree.Unit{}), "C (C 1 _) ()"},
		{tree.PatternPair{Left: made("C", any, any), Right: made("N")}, "(C _ _, N)"},
		{made("C", tree.PatternPair{Left: one, Right: made("C", any)}, any), "C (1, C _) _"},
	} {
		if got := Pattern(c.p); got != c.want {
			t.Errorf("P14: %q, want %q", got, c.want)
		}
	}
}
