// Package assay: the types of small functional programs, found in two ways: see DOC.md.
package assay

import (
	"assay/api"
	"assay/reader"
	"assay/writer"
)

// Show writes a program in one way (P4).
func Show(source string) (string, api.Fault) {
	program, fault := reader.Program(source)
	if fault.Kind != api.OK {
		return "", fault
	}
	return writer.Program(program), api.Fault{}
}

// Canon writes a type in one way (P5).
func Canon(text string) (string, api.Fault) { return "", api.Fault{} }

// Unify makes two types one (P6).
func Unify(a string, b string) (string, bool, api.Fault) { return "", false, api.Fault{} }

// Scope tells what is wrong with a program's names (P7).
func Scope(source string) api.Fault { return api.Fault{} }

// Infer finds the types of a program's definitions (P8 to P11).
func Infer(source string, engine int) api.Report { return api.Report{} }

// Check tells of its matches too (P12 to P14).
func Check(source string, engine int) api.Report { return api.Report{} }
