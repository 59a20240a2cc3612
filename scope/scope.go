// Package scope: what is wrong with a program's names.
package scope

import (
	"assay/api"
	"assay/tree"
)

// Fault is the fault with the least From among all that a program's names have.
func Fault(program tree.Program) api.Fault {
	c := newChecker()
	for _, decl := range program.Decls {
		c.decl(decl)
	}
	return c.first
}

// names are those that are known, each with a number; where none is asked for, with any.
type names map[string]int

func (n names) has(name string) bool {
	_, known := n[name]
	return known
}

// takes tells whether a name is known and has so many types, or patterns, behind it.
func (n names) takes(name string, count int) bool {
	takes, known := n[name]
	return known && takes == count
}

// checker goes through a program and knows, at each place, what its names stand for there.
type checker struct {
	types  names // each type that is declared by now, and how many types it has behind it
	makers names // each maker that is declared by now, and how many types it has
	lows   names // each low name, and how many of what is around name it: the same name may be given again inside

	first api.Fault
}

func newChecker() *checker {
	return &checker{
		types:  names{"Int": 0, "Bool": 0, "Unit": 0},
		makers: names{},
		lows:   names{},
	}
}

// tell keeps a fault unless one further left is known: so the order in which parts are looked at does not matter.
func (c *checker) tell(kind api.Errno, at tree.Span) {
	if c.first.Kind == api.OK || at.From < c.first.From {
		c.first = api.Fault{Kind: kind, From: at.From, To: at.To}
	}
}

func (c *checker) decl(decl tree.Decl) {
	switch d := decl.(type) {
	case tree.TypeDecl:
		c.typeDecl(d)
	case tree.LetDecl:
		c.value(d.Binding)
		c.lows[d.Name.Text]++
	}
}

// typeDecl knows the type before its makers, since these may have it among their types.
func (c *checker) typeDecl(d tree.TypeDecl) {
	c.declare(c.types, d.Name, len(d.Params))
	own := names{}
	for _, param := range d.Params {
		c.declare(own, param, 0)
	}
	for _, maker := range d.Makers {
		c.declare(c.makers, maker.Name, len(maker.Types))
		c.typesOf(maker.Types, own)
	}
}

// declare gives a name that must be new among the known ones.
func (c *checker) declare(known names, name tree.Name, count int) {
	if known.has(name.Text) {
		c.tell(api.ErrDecl, name.Span)
	}
	known[name.Text] = count
}
