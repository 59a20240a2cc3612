package assay

import (
	"assay/api"
	"assay/nodes"
	"assay/reader"
	"assay/types"
	"assay/writer"
)

// readType reads a type that must not be too large; variable tells what its variables' names stand for.
func readType(text string, variable func(name string) types.Type) (types.Type, api.Fault) {
	read, fault := reader.Type(text)
	if fault.Kind != api.OK {
		return nil, fault
	}
	t := types.Of(read, variable)
	if types.Size(t) > api.MaxSize {
		return nil, api.Fault{Kind: api.ErrSize, To: len(text)}
	}
	return t, api.Fault{}
}

// unify joins nodes, since what comes of two small types may be too large to be written out ahead of its size.
func unify(a, b types.Type) (string, bool, api.Fault) {
	variable := nodes.Variables(0)
	left, right := nodes.Of(a, 0, variable), nodes.Of(b, 0, variable)
	if !nodes.Join(left, right) {
		return "", false, api.Fault{}
	}
	size, ends := left.Size(api.MaxSize)
	switch {
	case !ends:
		return "", false, api.Fault{}
	case size > api.MaxSize:
		return "", false, api.Fault{Kind: api.ErrSize}
	}
	return writer.Types()(left.Type()), true, api.Fault{}
}
