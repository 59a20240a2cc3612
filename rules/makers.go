package rules

import (
	"assay/tree"
	"assay/types"
)

// Maker is what a maker takes, and the type of what it makes; all variables in it are any.
type Maker struct {
	Takes []types.Type
	Makes types.Type
}

// Makers are those of a declared type, by their names.
func Makers(d tree.TypeDecl) map[string]Maker {
	variable := types.Names(types.Fresh())
	makes := types.Made{By: d.Name.Text}
	for _, param := range d.Params {
		makes.Parts = append(makes.Parts, variable(param.Text))
	}
	makers := map[string]Maker{}
	for _, m := range d.Makers {
		maker := Maker{Makes: makes}
		for _, t := range m.Types {
			maker.Takes = append(maker.Takes, types.Of(t, variable))
		}
		makers[m.Name.Text] = maker
	}
	return makers
}

// Type is the type of a maker where it stands as an expression.
func (m Maker) Type() types.Type {
	t := m.Makes
	for i := len(m.Takes) - 1; i >= 0; i-- {
		t = types.FunctionOf(m.Takes[i], t)
	}
	return t
}
