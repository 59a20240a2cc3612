package assay

import (
	"assay/api"
	"assay/enginej"
	"assay/enginew"
	"assay/reader"
	"assay/rules"
	"assay/scope"
	"assay/tree"
	"assay/types"
	"assay/writer"
)

// engine finds the types of a program's declarations, one after the other.
type engine interface {
	Makers(d tree.TypeDecl)
	Let(b tree.Binding) (types.Type, rules.Fault)
}

// engines tells how each of them is begun, by its number.
func engines() map[int]func() engine {
	return map[int]func() engine{
		api.EngineW: func() engine { return enginew.New() },
		api.EngineJ: func() engine { return enginej.New() },
	}
}

// readNamed reads a program in which nothing is wrong with the names.
func readNamed(source string) (tree.Program, api.Fault) {
	program, fault := reader.Program(source)
	if fault.Kind != api.OK {
		return tree.Program{}, fault
	}
	return program, scope.Fault(program)
}

// inferSource reads a program and finds its types, by the engine of that number.
func inferSource(source string, number int) (tree.Program, api.Report) {
	program, fault := readNamed(source)
	if fault.Kind != api.OK {
		return tree.Program{}, api.Report{Fault: fault}
	}
	begin, known := engines()[number]
	if !known {
		return tree.Program{}, api.Report{Fault: api.Fault{Kind: api.ErrScope}}
	}
	return program, infer(program, begin())
}

// infer has an engine find the types of a program up to the first that there is none of.
func infer(program tree.Program, finder engine) api.Report {
	var report api.Report
	for _, decl := range program.Decls {
		switch d := decl.(type) {
		case tree.TypeDecl:
			finder.Makers(d)
		case tree.LetDecl:
			t, fault := finder.Let(d.Binding)
			if fault.Kind != api.OK {
				return refused(report, fault)
			}
			report.Binds = append(report.Binds, api.Bind{Name: d.Name.Text, Type: writer.Types()(t)})
		}
	}
	return report
}

// refused is a report with the fault behind which no more types are found.
func refused(report api.Report, fault rules.Fault) api.Report {
	report.Fault = fault.Fault
	if fault.Kind == api.ErrType {
		write := writer.Types()
		report.Left = write(fault.Left)
		report.Right = write(fault.Right)
	}
	return report
}
