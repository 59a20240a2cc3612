// Package assay: the types of small functional programs, found in two ways: see DOC.md.
package assay

import (
	"assay/api"
	"assay/matches"
	"assay/reader"
	"assay/types"
	"assay/writer"
)

// Show writes a program in one way (P4).
func Show(source string) (string, api.Fault) {
	program, fault := reader.Program(source)
	if fault.Kind != api.OK {
		return "", fault
	}
	return writer.Program(program), api.Fault{}
}

// Canon writes a type in one way (P5).
func Canon(text string) (string, api.Fault) {
	t, fault := readType(text, types.Names(types.Fresh()))
	if fault.Kind != api.OK {
		return "", fault
	}
	return writer.Types()(t), api.Fault{}
}

// Unify makes two types one (P6).
func Unify(a string, b string) (string, bool, api.Fault) {
	variable := types.Names(types.Fresh())
	left, fault := readType(a, variable)
	if fault.Kind != api.OK {
		return "", false, fault
	}
	right, fault := readType(b, variable)
	if fault.Kind != api.OK {
		return "", false, fault
	}
	return unify(left, right)
}

// Scope tells what is wrong with a program's names (P7).
func Scope(source string) api.Fault {
	_, fault := readNamed(source)
	return fault
}

// Infer finds the types of a program's definitions (P8 to P11).
func Infer(source string, engine int) api.Report {
	_, report := inferSource(source, engine)
	return report
}

// Check tells of its matches too (P12 to P14).
func Check(source string, engine int) api.Report {
	program, report := inferSource(source, engine)
	if report.Fault.Kind == api.OK {
		report.Warns = matches.Warns(program)
	}
	return report
}
