package scope

import (
	"assay/api"
	"assay/tree"
)

// typesOf looks at types in which the variables that are own may stand, and no others.
func (c *checker) typesOf(list []tree.Type, own names) {
	for _, t := range list {
		c.typeOf(t, own)
	}
}

func (c *checker) typeOf(t tree.Type, own names) {
	switch t := t.(type) {
	case tree.TypeVar:
		if !own.has(t.Name) {
			c.tell(api.ErrDecl, t.Span)
		}
	case tree.Named:
		if !c.types.takes(t.Name.Text, len(t.Args)) {
			c.tell(api.ErrDecl, t.Name.Span)
		}
		c.typesOf(t.Args, own)
	case tree.TypePair:
		c.typeOf(t.Left, own)
		c.typeOf(t.Right, own)
	case tree.Arrow:
		c.typeOf(t.Left, own)
		c.typeOf(t.Right, own)
	}
}
