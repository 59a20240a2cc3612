package assay_test

import (
	"strings"
	"testing"

	"assay/api"
	"assay/assay"
)

// sizeHead declares a maker of the same name as its type: so a ladder of pairs of A is an expression, a pattern and a type.
const sizeHead = "type A=A;type B 'a=E;"

// ladder has, or is, a type of that odd size.
func ladder(size int) string {
	steps := size / 2
	return strings.Repeat("(A,", steps) + "A" + strings.Repeat(")", steps)
}

// rungs puts ladders for %25, %45, %47 and %49.
func rungs(text string) string {
	return strings.NewReplacer("%25", ladder(25), "%45", ladder(45), "%47", ladder(47), "%49", ladder(49)).Replace(text)
}

func checkTooLarge(t *testing.T, promise string, texts []string) {
	t.Helper()
	for _, text := range texts {
		source, want := marked(api.ErrSize, rungs(sizeHead+text))
		if r := inferred(t, source); !sameReport(r, api.Report{Fault: want, Binds: r.Binds}) {
			t.Errorf("%s: Infer(%q): %+v, want %v", promise, source, r, want)
		}
	}
}

// checkNotTooLarge holds the last declared type against the one wanted.
func checkNotTooLarge(t *testing.T, promise string, list []foundTypes) {
	t.Helper()
	for _, c := range list {
		source := rungs(sizeHead + c.source)
		want, f := assay.Canon(rungs(c.want))
		r := inferred(t, source)
		if f.Kind != api.OK || r.Fault.Kind != api.OK || len(r.Binds) == 0 || r.Binds[len(r.Binds)-1].Type != want {
			t.Errorf("%s: Infer(%q): %+v, want %v", promise, source, r, want)
		}
	}
}

func TestSizesOfDeclarations(t *testing.T) {
	checkTooLarge(t, "P11", []string{
		"let[x]=%49;",
		"let y=A;let[x]=%49;",
		"let[x]=fun x->%47;",
		"let[x]=fun x->fun y->%45;",
		"let[x]=(%47,A);",
		"let[x]=(A,((E:B %45),A));",
		"let[x]=let y=A in %49;",
		"let[x]=((fun x->A)A,%47);",
		"let x=%47;let[y]=(x,A);",
		"let[x]=((E:B %47),A);",
		"type T=C %47;let[x]=C;",
		"type T=C" + strings.Repeat(" A", 24) + ";let[x]=C;",
	})
	checkNotTooLarge(t, "P11", []foundTypes{
		{"let x=%47;", "%47"},
		{"let x=fun x->%45;", "'a->%45"},
		{"let x=(E:B %47);", "B %47"},
		{"let x=((fun y->y)A,%45);", "(A,%45)"},
		{"type T=C %45;let x=C;", "%45->T"},
		{"type T=C" + strings.Repeat(" A", 23) + ";let x=C;", strings.Repeat("A->", 23) + "T"},
		{"let x=(A,(E:B %45));", "(A,B %45)"},
	})
}

func TestSizesOfNames(t *testing.T) {
	checkTooLarge(t, "P9", []string{
		"let x=let y=%49 in[y];",
		"let x=let y=%49 in(A,[y]);",
		"let x=let y=%49 in([y]+1);",
		"let x=let y=%49 in[y]A;",
		"let x=let y=fun x->%47 in[y]A;",
		"let x=let y=((E:B %47),A)in[y];",
		"let x=fun z->let y=(z,%47)in[y];",
		"let f=fun x->match x with(a,b)->((a:%25),((b:%25),[x]))end;",
		"let f=fun x->match x with(a,b)->((a:%25),((b:%25),let y=A in[x]))end;",
		"let f=fun x->match x with(a,b)->let y=x in((a:%25),((b:%25),[y]))end;",
	})
	checkNotTooLarge(t, "P9", []foundTypes{
		{"let x=let y=%47 in y;", "%47"},
		{"let x=let y=(E:B %47)in y;", "B %47"},
		{"let x=let y=%49 in A;", "A"},
		{"let x=let y=%49 in let y=A in y;", "A"},
		{"let x=let y=(%49,%49)in let z=fun u->u in(z A,z 1);", "(A,Int)"},
		{"let x=let f=fun x->match x with(a,b)->let y=((a:%25),(b:%25))in A end in A;", "A"},
	})
}

func TestSizesOfCalls(t *testing.T) {
	checkTooLarge(t, "P9", []string{
		"let x=[(fun x->%47)A];",
		"let x=([(fun x->%47)A])A;",
		"let x=[(fun x->A)%47];",
		"let x=[A %47];",
		"let x=[%49 A];",
		"type T=C %47;let x=[C A];",
		"type T=C" + strings.Repeat(" A", 24) + ";let x=[C A]A;",
		"type T 'a=C 'a A;let x=[C %47]A;",
	})
	checkNotTooLarge(t, "P9", []foundTypes{
		{"let x=(fun x->%45)A;", "%45"},
		{"let x=(fun x->A)%45;", "A"},
		{"let x=(fun x->A)(E:B %45);", "A"},
		{"type T=C" + strings.Repeat(" A", 23) + ";let x=C A;", strings.Repeat("A->", 22) + "T"},
		{"type T 'a=C 'a;let x=C %45;", "T %45"},
		{"let x=(fun x->x)%45;", "%45"},
	})
	checkApart(t, []apartTypes{
		{rungs(sizeHead + "let x=[A %45];"), "A", canon(t, rungs("%45->'a"))},
		{rungs(sizeHead + "let x=[A(E:B %45)];"), "A", canon(t, rungs("B %45->'a"))},
		{rungs(sizeHead + "let x=[(E:B %47)A];"), canon(t, rungs("B %47")), "A -> 'v0"},
	})
}

func canon(t *testing.T, text string) string {
	t.Helper()
	written, f := assay.Canon(text)
	if f.Kind != api.OK {
		t.Fatalf("Canon(%q): %v", text, f)
	}
	return written
}

func TestSizesOfParts(t *testing.T) {
	for _, op := range []string{"+", "-", "*", "<"} {
		checkTooLarge(t, "P9", []string{"let x=[%49]" + op + "1;", "let x=1" + op + "[%49];", "let x=1" + op + "(2" + op + "[%49]);"})
		checkApart(t, []apartTypes{
			{rungs(sizeHead + "let x=[%47]" + op + "1;"), canon(t, ladder(47)), "Int"},
			{rungs(sizeHead + "let x=1" + op + "[%47];"), canon(t, ladder(47)), "Int"},
			{rungs(sizeHead + "let x=1" + op + "[(E:B %47)];"), canon(t, "B "+ladder(47)), "Int"},
		})
	}
	checkTooLarge(t, "P9", []string{
		"let x=if[%49]then 1 else 1;",
		"let x=if true then %49 else[A];",
		"let x=if true then A else[%49];",
		"let x=if true then %49 else[%49];",
		"let x=([%49]:A);",
		"let x=([A]:%49);",
		"let x=([fun x->x]:%47->A);",
		"let rec f=[fun x->%47];",
		"let x=let rec f=[fun x->%47]in A;",
		"let x=let rec f=[fun x->fun y->%45]in A;",
	})
	checkNotTooLarge(t, "P9", []foundTypes{
		{"let x=if true then %47 else %47;", "%47"},
		{"let x=(%47:%47);", "%47"},
		{"let x=(fun x->x:A->A);", "A->A"},
		{"let rec f=fun x->%45;", "'a->%45"},
		{"let x=let rec f=fun x->%45 in f A;", "%45"},
	})
	checkApart(t, []apartTypes{
		{rungs(sizeHead + "let x=if[%47]then 1 else 1;"), canon(t, ladder(47)), "Bool"},
		{rungs(sizeHead + "let x=if true then %47 else[A];"), canon(t, ladder(47)), "A"},
		{rungs(sizeHead + "let x=([A]:B %47);"), "A", canon(t, "B "+ladder(47))},
	})
}

func TestSizesOfMatches(t *testing.T) {
	long := "type T"
	for i := range 48 {
		long += " 'a" + string(rune('A'+i%24)) + string(rune('a'+i/24))
	}
	long += "=M;"
	checkTooLarge(t, "P9", []string{
		"let x=match %49 with[_]->A end;",
		"let x=match %49 with[y]->A end;",
		"let x=match A with[%49]->A end;",
		"let x=match %49 with[A]->A end;",
		"let x=match A with _->[%49]end;",
		"let x=match A with _->A|_->[%49]end;",
		"let f=fun x->match A with _->x|_->[match x with(a,b)->let q=(a:%25)in let s=(b:%25)in A end]end;",
		"let f=fun x->match x with(a,b)->let q=((a:%25),(b:%25))in A|[_]->A end;",
		"type T=C %49;let f=fun x->match x with C[_]->A end;",
		"type T=C A %49;let f=fun x->match x with C y[z]->A end;",
		"type T 'a=C 'a;let f=fun x->match x with C[%49]->A end;",
		"type T 'a 'b=C 'a;let f=fun x->match x with[C %47]->A end;",
		long + "let[x]=M;",
		long + "let x=match M with[_]->A end;",
		long + "let f=fun x->match x with[M]->A end;",
	})
	checkNotTooLarge(t, "P9", []foundTypes{
		{"let x=match %47 with _->A end;", "A"},
		{"let x=match %47 with %47->A end;", "A"},
		{"let x=match A with _->%47 end;", "%47"},
		{"type T 'a=C 'a;let x=let f=fun x->match x with C %47->A end in A;", "A"},
		{"type T=C %47;let f=fun x->match x with C y->A end;", "T->A"},
		{"type T=C" + strings.Repeat(" A", 40) + ";let f=fun x->match x with C" + strings.Repeat(" _", 40) + "->A end;", "T->A"},
	})
}

// A declared type lets its instances by up to the largest that there are, and no others.
func TestLargestInstances(t *testing.T) {
	checkNotTooLarge(t, "P15", []foundTypes{
		{"let y=E;let x=(y:B(%47));", "B (%47)"},
		{"let f=fun x->x;let x=(f:(A,(A,(A,(A,A))))->(A,(A,(A,(A,A)))));", "(A,(A,(A,(A,A))))->(A,(A,(A,(A,A))))"},
		{"let rec f=fun x->f x;let x=(f:A->%45);", "A->%45"},
		{"let rec f=fun x->f x;let x=(f:%45->A);", "%45->A"},
	})
	for _, text := range []string{
		"let y=E;let x=([y]:%47);",
		"let f=fun x->x;let x=([f]:A->%45);",
		"let f=fun x->x;let x=([f]:%45->A);",
		"let rec f=fun x->f x;let x=([f]:B(%47));",
	} {
		source, want := marked(api.ErrType, rungs(sizeHead+text))
		if r := inferred(t, source); r.Fault != want {
			t.Errorf("P15: Infer(%q): %+v, want %v", source, r, want)
		}
	}
}
