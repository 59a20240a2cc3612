package rules

import (
	"testing"

	"assay/api"
	"assay/reader"
	"assay/tree"
	"assay/types"
	"assay/writer"
)

func program(t *testing.T, source string) tree.Program {
	t.Helper()
	p, fault := reader.Program(source)
	if fault.Kind != api.OK {
		t.Fatalf("%q: %v", source, fault)
	}
	return p
}

func TestIsValue(t *testing.T) {
	for e, want := range map[string]bool{
		"x": true, "C": true, "1": true, "true": true, "()": true, "fun x->f x": true,
		"(1,x)": true, "(f x,1)": false, "(1,f x)": false, "((1,f x),1)": false,
		"(x:Int)": true, "(f x:Int)": false, "((x:Int),(f x:Int))": false,
		"C 1": true, "C(f x)": false, "C 1 2": true, "C(f x)2": false, "C 1(f x)": false, "C 1 2(3,x)": true,
		"f 1": false, "(fun x->x)1": false, "(C:T)1": false, "(C,C)1": false, "f C 1": false, "1 2": false,
		"x+1": false, "x-1": false, "x*1": false, "x<1": false,
		"if x then 1 else 2": false, "let x=1 in x": false, "let rec f=fun x->x in f": false, "match x with _->1 end": false,
	} {
		let := program(t, "let a="+e+";").Decls[0].(tree.LetDecl)
		if got := IsValue(let.Value); got != want {
			t.Errorf("P10: %q: %v", e, got)
		}
	}
}

func TestMakers(t *testing.T) {
	decl := program(t, "type T 'b 'a=A|B 'a|C(T 'a 'b)('b->Int)'b;").Decls[0].(tree.TypeDecl)
	makers := Makers(decl)
	if len(makers) != 3 {
		t.Errorf("%v", makers)
	}
	for name, want := range map[string]string{
		"A": "T 'v0 'v1",
		"B": "'v0 -> T 'v1 'v0",
		"C": "T 'v0 'v1 -> ('v1 -> Int) -> 'v1 -> T 'v1 'v0",
	} {
		m := makers[name]
		if got := writer.Types()(m.Type()); got != want {
			t.Errorf("%s: %q, want %q", name, got, want)
		}
		if got := writer.Types()(m.Makes); got != "T 'v0 'v1" {
			t.Errorf("%s makes %q", name, got)
		}
	}
	if takes := makers["C"].Takes; len(takes) != 3 || types.Size(takes[1]) != 3 {
		t.Errorf("C takes %v", takes)
	}
}

func TestResults(t *testing.T) {
	results := Results()
	for op, want := range map[string]string{"+": "Int", "-": "Int", "*": "Int", "<": "Bool"} {
		if got := writer.Types()(results[op]()); got != want {
			t.Errorf("%s: %s", op, got)
		}
	}
}
