package assay_test

import (
	"math"
	"math/rand"
	"slices"
	"strings"
	"testing"

	"assay/api"
	"assay/assay"
)

var bothEngines = []int{api.EngineW, api.EngineJ}

// inferred is what both engines answer.
func inferred(t *testing.T, source string) api.Report {
	t.Helper()
	w, j := assay.Infer(source, api.EngineW), assay.Infer(source, api.EngineJ)
	if !sameReport(w, j) {
		t.Errorf("P15: Infer(%q): W: %+v, J: %+v", source, w, j)
	}
	return j
}

// told is a list of names and types as one text.
func told(binds []api.Bind) string {
	var out []string
	for _, b := range binds {
		out = append(out, b.Name+": "+b.Type)
	}
	return strings.Join(out, "; ")
}

type foundTypes struct{ source, want string }

func checkFound(t *testing.T, promise string, list []foundTypes) {
	t.Helper()
	for _, c := range list {
		r := inferred(t, c.source)
		if got := told(r.Binds); got != c.want || !sameReport(r, api.Report{Binds: r.Binds}) {
			t.Errorf("%s: Infer(%q): %s with %+v, want %s", promise, c.source, got, r, c.want)
		}
	}
}

const lists = "type L 'a=N|C 'a(L 'a);"

// The rows of the document's table.
func TestExamplesOfInfer(t *testing.T) {
	checkFound(t, "P8", []foundTypes{
		{"let id=fun x->(x);", "id: 'v0 -> 'v0"},
		{"let k = fun x -> fun y -> x; let a = k 1;", "k: 'v0 -> 'v1 -> 'v0; a: Unit -> Int"},
		{"type List 'a = Nil | Cons 'a (List 'a); let rec map = fun f -> fun l -> match l with Nil -> Nil | Cons x r -> Cons (f x) (map f r) end;", "map: ('v0 -> 'v1) -> List 'v0 -> List 'v1"},
		{"let f = fun x -> match x with true -> 1 end;", "f: Bool -> Int"},
		{"let f = fun x -> match x with (_, 0) -> 1 | (_, _) -> 2 | _ -> 3 end;", "f: ('v0, Int) -> Int"},
	})
	checkApart(t, []apartTypes{
		{"let w = fun x -> [x x];", "'v0", "'v0 -> 'v1"},
		{"let f = fun x -> 1 + [true];", "Bool", "Int"},
	})
	if r := inferred(t, "let f = fun x -> y;"); !sameReport(r, api.Report{Fault: fault(api.ErrScope, 17, 18)}) {
		t.Errorf("P8: %+v", r)
	}
}

func TestTypesOfExpressions(t *testing.T) {
	checkFound(t, "P9", []foundTypes{
		{"", ""},
		{lists, ""},
		{"let a=0;let b=999999999;", "a: Int; b: Int"},
		{"let a=true;let b=false;let c=();", "a: Bool; b: Bool; c: Unit"},
		{"let a=(1,true);let b=((),(a,1));", "a: (Int, Bool); b: (Unit, ((Int, Bool), Int))"},
		{"let a=1;let b=a;let c=(b,a);", "a: Int; b: Int; c: (Int, Int)"},
		{"let f=fun x->x;let a=(f 1,f true);", "f: 'v0 -> 'v0; a: (Int, Bool)"},
		{"let f=fun x->1;", "f: 'v0 -> Int"},
		{"let f=fun x->fun y->y;", "f: 'v0 -> 'v1 -> 'v1"},
		{"let f=fun x->fun x->x;", "f: 'v0 -> 'v1 -> 'v1"},
		{"let f=fun x->fun y->(y,x);", "f: 'v0 -> 'v1 -> ('v1, 'v0)"},
		{"let f=fun g->g 1;", "f: (Int -> 'v0) -> 'v0"},
		{"let f=fun g->fun x->g(g x);", "f: ('v0 -> 'v0) -> 'v0 -> 'v0"},
		{"let f=fun g->fun h->fun x->h(g x);", "f: ('v0 -> 'v1) -> ('v1 -> 'v2) -> 'v0 -> 'v2"},
		{"let f=fun g->g()true(1,2);", "f: (Unit -> Bool -> (Int, Int) -> 'v0) -> 'v0"},
		{"let f=fun x->x+1;let g=fun x->1-x;let h=fun x->fun y->x*y;", "f: Int -> Int; g: Int -> Int; h: Int -> Int -> Int"},
		{"let f=fun x->fun y->x<y;let a=1<2;let b=1+2-3*4;", "f: Int -> Int -> Bool; a: Bool; b: Int"},
		{"let f=fun x->fun y->x+1<y*2;", "f: Int -> Int -> Bool"},
		{"let f=fun x->if x then 1 else 2;", "f: Bool -> Int"},
		{"let f=fun x->fun y->fun z->if x then y else z;", "f: Bool -> 'v0 -> 'v0 -> 'v0"},
		{"let f=fun y->fun z->if true then y else z+1;", "f: Int -> Int -> Int"},
		{"let f=fun y->fun z->if true then y+1 else z;", "f: Int -> Int -> Int"},
		{"let a=let x=1 in x+1;", "a: Int"},
		{"let a=let x=1 in let x=true in x;", "a: Bool"},
		{"let a=let x=1 in let x=(x,x) in x;", "a: (Int, Int)"},
		{"let f=fun x->let y=x+1 in x;", "f: Int -> Int"},
		{"let f=(fun x->x:Int->Int);let g=fun x->(x:Bool);let h=(fun x->x:(Int,Unit)->(Int,Unit));", "f: Int -> Int; g: Bool -> Bool; h: (Int, Unit) -> (Int, Unit)"},
		{"let f=fun x->fun y->((x,y):(Int,Bool->Bool));", "f: Int -> (Bool -> Bool) -> (Int, Bool -> Bool)"},
		{lists + "let a=(N:L(L Int));let f=fun x->(C x:L Bool->L Bool);", "a: L (L Int); f: Bool -> L Bool -> L Bool"},
	})
}

func TestTypesOfMakers(t *testing.T) {
	checkFound(t, "P9", []foundTypes{
		{lists + "let a=N;let b=C;let c=C 1;let d=C 1 N;let e=C N;", "a: L 'v0; b: 'v0 -> L 'v0 -> L 'v0; c: L Int -> L Int; d: L Int; e: L (L 'v0) -> L (L 'v0)"},
		{lists + "let a=(C 1 N,C true N);let b=(N,N);", "a: (L Int, L Bool); b: (L 'v0, L 'v1)"},
		{"type T=A|B Int T;let a=A;let b=B;let c=B 1 A;", "a: T; b: Int -> T -> T; c: T"},
		{"type T 'a 'b=A 'b|B 'a|D;let a=A;let b=B;let c=D;let e=A 1;let f=B 1;", "a: 'v0 -> T 'v1 'v0; b: 'v0 -> T 'v0 'v1; c: T 'v0 'v1; e: T 'v0 Int; f: T Int 'v0"},
		{"type T 'a 'b=A('b->'a)('a,'b);let a=A;let f=A(fun x->1);", "a: ('v0 -> 'v1) -> ('v1, 'v0) -> T 'v1 'v0; f: (Int, 'v0) -> T Int 'v0"},
		{"type T 'a=A(T(T 'a));let a=A;", "a: T (T 'v0) -> T 'v0"},
		{"type T 'b 'a=A 'a;type U 'a=B(T 'a Int);let f=fun x->B(A x);", "f: Int -> U 'v0"},
		{"type T=T T;type U 'a=U(U 'a)|V;let a=T;let b=U(U V);", "a: T -> T; b: U 'v0"},
		{"let x=1;type T=A;let y=A;type U 'a=B 'a;let z=B y;", "x: Int; y: T; z: U T"},
	})
}

func TestTypesOfMatches(t *testing.T) {
	checkFound(t, "P9", []foundTypes{
		{"let f=fun x->match x with _->1 end;", "f: 'v0 -> Int"},
		{"let f=fun x->match x with y->y end;", "f: 'v0 -> 'v0"},
		{"let f=fun x->match x with 1->true end;", "f: Int -> Bool"},
		{"let f=fun x->match x with true->1|false->2 end;", "f: Bool -> Int"},
		{"let f=fun x->match x with ()->1 end;", "f: Unit -> Int"},
		{"let f=fun x->match x with (y,z)->(z,y) end;", "f: ('v0, 'v1) -> ('v1, 'v0)"},
		{"let f=fun x->match x with (1,(y,true))->y|(_,(z,_))->z end;", "f: (Int, ('v0, Bool)) -> 'v0"},
		{"let f=fun x->fun y->match x with _->y|z->z end;", "f: 'v0 -> 'v0 -> 'v0"},
		{"let f=fun x->match x with y->y+1|z->z end;", "f: Int -> Int"},
		{"let f=fun x->match x with (y,z)->y|(y,z)->z end;", "f: ('v0, 'v0) -> 'v0"},
		{lists + "let f=fun l->match l with N->0|C x _->x end;", "f: L Int -> Int"},
		{lists + "let f=fun l->match l with C x r->r end;", "f: L 'v0 -> L 'v0"},
		{lists + "let f=fun l->match l with C(x,1)(C y N)->(y,x) end;", "f: L ('v0, Int) -> (('v0, Int), 'v0)"},
		{lists + "let f=fun l->match l with N->true end;", "f: L 'v0 -> Bool"},
		{"type T 'a 'b=A 'b('a->'b)|B;let f=fun t->match t with A x g->g end;let g=fun t->match t with B->1 end;", "f: T 'v0 'v1 -> 'v0 -> 'v1; g: T 'v0 'v1 -> Int"},
		{"let f=fun x->match x with x->x end;", "f: 'v0 -> 'v0"},
		{"let f=fun x->match(x,1)with(x,y)->(y,x) end;", "f: 'v0 -> (Int, 'v0)"},
		{"let f=fun g->match g 1 with y->g y end;", "f: (Int -> Int) -> Int"},
	})
}

func TestTypesOfRec(t *testing.T) {
	checkFound(t, "P9", []foundTypes{
		{"let rec f=fun x->f x;", "f: 'v0 -> 'v1"},
		{"let rec f=fun x->x;let a=(f 1,f true);", "f: 'v0 -> 'v0; a: (Int, Bool)"},
		{"let rec f=fun n->if n<2 then 1 else n*f(n-1);", "f: Int -> Int"},
		{"let rec f=fun x->fun y->f y x;", "f: 'v0 -> 'v0 -> 'v1"},
		{"let f=true;let rec f=fun x->f(x+1);", "f: Bool; f: Int -> 'v0"},
		{"let rec f=fun f->f+1;", "f: Int -> Int"},
		{"let a=let rec f=fun x->x in(f 1,f true);", "a: (Int, Bool)"},
		{"let a=let rec f=fun x->f x in(f 1+1,f true 1);", "a: (Int, Unit)"},
		{"let f=fun x->let rec g=fun y->if true then x else g y in g;", "f: 'v0 -> 'v1 -> 'v0"},
		{"let f=fun x->let rec g=fun y->(x,y)in(g 1,g true);", "f: 'v0 -> (('v0, Int), ('v0, Bool))"},
		{"let f=fun f->let rec f=fun x->f x in(f 1,f true);", "f: 'v0 -> ('v1, 'v2)"},
		{lists + "let rec map=fun f->fun l->match l with N->N|C x r->C(f x)(map f r)end;", "map: ('v0 -> 'v1) -> L 'v0 -> L 'v1"},
		{lists + "let rec app=fun a->fun b->match a with N->b|C x r->C x(app r b)end;let l=app(C 1 N)(C 2 N);", "app: L 'v0 -> L 'v0 -> L 'v0; l: L Int"},
		{lists + "let rec fold=fun f->fun a->fun l->match l with N->a|C x r->fold f(f a x)r end;let sum=fold(fun a->fun x->a+x)0;", "fold: ('v0 -> 'v1 -> 'v0) -> 'v0 -> L 'v1 -> 'v0; sum: L Int -> Int"},
	})
}

// What is let be a value is any where no name around holds it; names of functions and patterns are not.
func TestWhatIsAny(t *testing.T) {
	checkFound(t, "P9", []foundTypes{
		{"let a=let f=fun x->x in(f 1,f true);", "a: (Int, Bool)"},
		{"let a=let f=fun x->x in f f 1;", "a: Int"},
		{"let f=fun x->let y=x in(y,y);", "f: 'v0 -> ('v0, 'v0)"},
		{"let f=fun x->let g=fun y->x in(g 1,g true);", "f: 'v0 -> ('v0, 'v0)"},
		{"let f=fun x->let g=fun y->(x,y)in(g 1,g true);", "f: 'v0 -> (('v0, Int), ('v0, Bool))"},
		{"let f=fun x->let g=fun y->if true then x else y in(g 1,g 2);", "f: Int -> (Int, Int)"},
		{"let f=fun x->let g=(x,fun y->y)in match g with(a,h)->(a,h 1)end;", "f: 'v0 -> ('v0, Int)"},
		{"let f=fun x->let g=fun y->y in let h=fun z->(g x,g z)in(h 1,h true);", "f: 'v0 -> (('v0, Int), ('v0, Bool))"},
		{"let f=fun x->let g=fun y->let h=fun z->(x,(y,z))in(h 1,h true)in(g 1,g x);", "f: 'v0 -> ((('v0, (Int, Int)), ('v0, (Int, Bool))), (('v0, ('v0, Int)), ('v0, ('v0, Bool))))"},
		{"let f=fun x->match x with y->let z=fun u->(u,y)in(z 1,z true)end;", "f: 'v0 -> ((Int, 'v0), (Bool, 'v0))"},
		{"let f=fun x->let x=fun y->y in(x 1,x true);", "f: 'v0 -> (Int, Bool)"},
		{"let f=fun x->fun x->let y=x in y;", "f: 'v0 -> 'v1 -> 'v1"},
		{"let f=fun u->let g=(fun x->x)(fun y->y)in(g,g);", "f: 'v0 -> ('v1 -> 'v1, 'v1 -> 'v1)"},
		{"let f=fun u->let g=(fun x->x)(fun y->y)in let h=g in(h 1,h);", "f: 'v0 -> (Int, Int -> Int)"},
		{"let f=fun u->let g=(fun x->x)(fun y->y)in let h=fun z->(g,z)in(h 1,h u);", "f: 'v0 -> (('v1 -> 'v1, Int), ('v1 -> 'v1, 'v0))"},
		{"let f=let g=fun u->let h=(fun x->x)(fun y->y)in h in(g()1,g()true);", "f: (Int, Bool)"},
		{"let f=fun g->let h=fun x->g x in(h 1,h);", "f: (Int -> 'v0) -> ('v0, Int -> 'v0)"},
		{"let f=fun g->(let h=fun x->x in h 1,let h=fun x->x in h g);", "f: 'v0 -> (Int, 'v0)"},
		{"let f=fun x->fun y->let p=(x,y)in let q=if true then x else y in p;", "f: 'v0 -> 'v0 -> ('v0, 'v0)"},
		{"let f=fun x->fun y->let g=fun z->(x,z)in let q=if true then x else y in(g y,g 1);", "f: 'v0 -> 'v0 -> (('v0, 'v0), ('v0, Int))"},
	})
	checkApart(t, []apartTypes{
		{"let f=fun x->let y=x in(y 1,[y true]);", "Int -> 'v0", "Bool -> 'v1"},
		{"let f=fun x->let y=fun z->x z in(y 1,[y true]);", "Int -> 'v0", "Bool -> 'v1"},
		{"let a=(fun f->(f 1,[f true]))(fun x->x);", "Int -> 'v0", "Bool -> 'v1"},
		{"let a=match fun x->x with f->(f 1,[f true])end;", "Int -> Int", "Bool -> 'v0"},
		{"let a=match(fun x->x,1)with(f,_)->(f 1,[f true])end;", "Int -> Int", "Bool -> 'v0"},
		{"let a=let rec f=fun x->(f 1,[f true])in f;", "Int -> 'v0", "Bool -> 'v1"},
		{"let rec f=fun x->let g=f in(g 1,[g true]);", "Int -> 'v0", "Bool -> 'v1"},
		{"let f=fun x->let g=fun y->if true then x else y in(g 1,[g true]);", "Int -> Int", "Bool -> 'v0"},
		{"let f=fun u->let g=(fun x->x)(fun y->y)in let h=g in(h 1,[h true]);", "Int -> Int", "Bool -> 'v0"},
		{"let f=fun x->match x with y->let z=y in(z 1,[z true])end;", "Int -> 'v0", "Bool -> 'v1"},
		{"let f=fun x->let g=fun y->let h=fun z->(x,y)in match h 1 with(a,b)->if true then a else b end in(g 1,[g true]);", "Int -> Int", "Bool -> 'v0"},
	})
}

// valueHead declares what the expressions below are made of.
const valueHead = lists + "let i=fun x->x;"

// checkAny asks for an expression's type, in which % is its one variable, where it is declared and where it is let be inside.
func checkAny(t *testing.T, e, form string, value bool) {
	t.Helper()
	with := func(v string) string { return strings.ReplaceAll(form, "%", v) }
	outer, first, second := with("Unit"), with("'v1"), with("'v1")
	if value {
		outer, second = with("'v0"), with("'v2")
	}
	want := "i: 'v0 -> 'v0; a: " + outer + "; f: 'v0 -> (" + first + ", " + second + ")"
	source := valueHead + "let a=" + e + ";let f=fun u->let y=" + e + " in(y,y);"
	if r := inferred(t, source); told(r.Binds) != want || r.Fault.Kind != api.OK {
		t.Errorf("P10: Infer(%q): %+v, want %s", source, r, want)
	}
}

func TestValues(t *testing.T) {
	for _, c := range []struct{ e, form string }{
		{"i", "% -> %"},
		{"((i))", "% -> %"},
		{"N", "L %"},
		{"C", "% -> L % -> L %"},
		{"fun x->x", "% -> %"},
		{"fun x->i x", "% -> %"},
		{"(1,N)", "(Int, L %)"},
		{"(true,N)", "(Bool, L %)"},
		{"(N,false)", "(L %, Bool)"},
		{"((),(N,1))", "(Unit, (L %, Int))"},
		{"((1:Int),N)", "(Int, L %)"},
		{"(((1,true):(Int,Bool)),N)", "((Int, Bool), L %)"},
		{"C N", "L (L %) -> L (L %)"},
		{"(C)(N)", "L (L %) -> L (L %)"},
		{"C N N", "L (L %)"},
		{"(C N)N", "L (L %)"},
		{"C(C N N)", "L (L (L %)) -> L (L (L %))"},
		{"C(fun x->x)N", "L (% -> %)"},
		{"C(1,N)N", "L (Int, L %)"},
		{"C i", "L (% -> %) -> L (% -> %)"},
		{"C((i:Int->Int),N)N", "L (Int -> Int, L %)"},
		{"(C 1 N,N)", "(L Int, L %)"},
	} {
		checkAny(t, c.e, c.form, true)
	}
}

func TestWhatIsNoValue(t *testing.T) {
	for _, c := range []struct{ e, form string }{
		{"i N", "L %"},
		{"i i", "% -> %"},
		{"(fun x->x)i", "% -> %"},
		{"(fun x->N)1", "L %"},
		{"(i 1,N)", "(Int, L %)"},
		{"(N,i 1)", "(L %, Int)"},
		{"((),(N,i 1))", "(Unit, (L %, Int))"},
		{"((i 1:Int),N)", "(Int, L %)"},
		{"(N,((1,i 1):(Int,Int)))", "(L %, (Int, Int))"},
		{"C(i N)", "L (L %) -> L (L %)"},
		{"C(i N)N", "L (L %)"},
		{"C N(i N)", "L (L %)"},
		{"C(i 1,N)N", "L (Int, L %)"},
		{"C(C(i N)N)N", "L (L (L %))"},
		{"i C N", "L (L %) -> L (L %)"},
		{"i C N N", "L (L %)"},
		{"(i(C N))N", "L (L %)"},
		{"((C:Int->L Int->L Int)1,N)", "(L Int -> L Int, L %)"},
		{"(((fun x->x)1),N)", "(Int, L %)"},
		{"if true then N else N", "L %"},
		{"let z=1 in N", "L %"},
		{"let z=1 in fun x->x", "% -> %"},
		{"let rec z=fun x->x in N", "L %"},
		{"match 1 with _->N end", "L %"},
		{"(1+1,N)", "(Int, L %)"},
		{"(1-1,N)", "(Int, L %)"},
		{"(1*1,N)", "(Int, L %)"},
		{"(1<1,N)", "(Bool, L %)"},
		{"(if true then 1 else 1,N)", "(Int, L %)"},
		{"(let z=1 in z,N)", "(Int, L %)"},
		{"(match 1 with z->z end,N)", "(Int, L %)"},
	} {
		checkAny(t, c.e, c.form, false)
	}
}

func TestDeclarations(t *testing.T) {
	checkFound(t, "P11", []foundTypes{
		{"let k=fun x->fun y->x;let a=k 1;", "k: 'v0 -> 'v1 -> 'v0; a: Unit -> Int"},
		{"let k=fun x->fun y->x;let a=k k;let b=(k,k k);", "k: 'v0 -> 'v1 -> 'v0; a: Unit -> Unit -> Unit -> Unit; b: (Unit -> Unit -> Unit, Unit -> Unit -> Unit -> Unit)"},
		{"let i=(fun x->x)(fun x->x);let a=i();", "i: Unit -> Unit; a: Unit"},
		{"let i=fun x->x;let a=(i 1,(i true,i()));", "i: 'v0 -> 'v0; a: (Int, (Bool, Unit))"},
		{"let rec i=fun x->x;let a=(i 1,(i true,i()));", "i: 'v0 -> 'v0; a: (Int, (Bool, Unit))"},
		{"let p=(fun x->x,fun x->x);let q=p;", "p: ('v0 -> 'v0, 'v1 -> 'v1); q: ('v0 -> 'v0, 'v1 -> 'v1)"},
		{"let x=1;let x=(x,x);let x=(x,true);", "x: Int; x: (Int, Int); x: ((Int, Int), Bool)"},
		{"let f=fun x->x;let g=fun x->f;let f=1;let h=g 2 3;", "f: 'v0 -> 'v0; g: 'v0 -> 'v1 -> 'v1; f: Int; h: Int"},
		{lists + "let a=(fun x->x)N;let b=C()a;", "a: L Unit; b: L Unit"},
		{"let f=fun a->fun b->fun c->fun d->fun e->fun g->fun h->fun i->fun j->fun k->fun l->(l,a);", "f: 'v0 -> 'v1 -> 'v2 -> 'v3 -> 'v4 -> 'v5 -> 'v6 -> 'v7 -> 'v8 -> 'v9 -> 'v10 -> ('v10, 'v0)"},
	})
	checkApart(t, []apartTypes{
		{"let i=(fun x->x)(fun x->x);let a=[i 1];", "Unit -> Unit", "Int -> 'v0"},
		{"let k=fun x->fun y->x;let a=k 1;let b=[a true];", "Unit -> Int", "Bool -> 'v0"},
		{lists + "let a=(fun x->x)N;let b=[C 1 a];", "L Int -> L Int", "L Unit -> 'v0"},
	})
}

// apartTypes is a source with marks around the part where two types can't be one, and these.
type apartTypes struct{ text, left, right string }

func checkApart(t *testing.T, list []apartTypes) {
	t.Helper()
	for _, c := range list {
		source, want := marked(api.ErrType, c.text)
		if r := inferred(t, source); r.Fault != want || r.Left != c.left || r.Right != c.right {
			t.Errorf("P9: Infer(%q): %+v, want %v, %q, %q", source, r, want, c.left, c.right)
		}
	}
}

func TestTypesThatAreApart(t *testing.T) {
	checkApart(t, []apartTypes{
		{"let x=[1 2];", "Int", "Int -> 'v0"},
		{"let x=1+[1 2];", "Int", "Int -> 'v0"},
		{"let x=[() true]1;", "Unit", "Bool -> 'v0"},
		{"let x=([1 2])3;", "Int", "Int -> 'v0"},
		{"let x=[(1,2)(fun x->x)];", "(Int, Int)", "('v0 -> 'v0) -> 'v1"},
		{"let x=[(fun x->x+1)true];", "Int -> Int", "Bool -> 'v0"},
		{"let x=[(fun x->fun y->x+y)1 ()];", "Int -> Int", "Unit -> 'v0"},
		{"let w=fun x->[x x];", "'v0", "'v0 -> 'v1"},
		{"let w=fun f->fun x->[f x(f,x)];", "'v0", "('v1 -> 'v0, 'v1) -> 'v2"},
		{"let f=fun x->(x 1,[x true]);", "Int -> 'v0", "Bool -> 'v1"},
		{"let f=fun g->fun x->(g x,[g(x,x)]);", "'v0 -> 'v1", "('v0, 'v0) -> 'v2"},
		{"let f=fun x->[true]+x;", "Bool", "Int"},
		{"let f=fun x->x+[true];", "Bool", "Int"},
		{"let f=fun x->[()]-x;", "Unit", "Int"},
		{"let f=fun x->x-[(x,x)];", "(Int, Int)", "Int"},
		{"let f=fun x->([fun y->(x,y)])*x;", "'v0 -> ('v1, 'v0)", "Int"},
		{"let f=fun x->x*([fun y->(x,y)]);", "'v0 -> (Int, 'v0)", "Int"},
		{"let f=fun x->[true]<x;", "Bool", "Int"},
		{"let f=fun x->x<[true];", "Bool", "Int"},
		{"let f=([1<2])+1;", "Bool", "Int"},
		{"let f=1+([2<3]);", "Bool", "Int"},
		{"let f=fun x->if x then[x]+1 else 1;", "Bool", "Int"},
		{"let f=if[1]then 2 else 3;", "Int", "Bool"},
		{"let f=if([fun x->x])then 2 else 3;", "'v0 -> 'v0", "Bool"},
		{"let f=if true then 2 else[false];", "Int", "Bool"},
		{"let f=fun x->if true then fun y->(x,y)else[(fun y->(x,y),1)];", "'v0 -> ('v1, 'v0)", "('v2 -> ('v1, 'v2), Int)"},
		{"let f=fun x->if true then x else[(x,x)];", "'v0", "('v0, 'v0)"},
		{"let f=fun x->if true then(x,x)else[x];", "('v0, 'v0)", "'v0"},
		{"let rec f=[fun x->f];", "'v0", "'v1 -> 'v0"},
		{"let rec f=[fun x->(f 1,x)];", "Int -> 'v0", "'v1 -> ('v0, 'v1)"},
		{"let a=let rec f=[fun x->fun y->f]in f;", "'v0", "'v1 -> 'v2 -> 'v0"},
		{"let rec f=[fun x->x f];", "'v0", "('v0 -> 'v1) -> 'v1"},
		{"let a=([1]:Bool);", "Int", "Bool"},
		{"let a=([fun x->x]:Int->Bool);", "'v0 -> 'v0", "Int -> Bool"},
		{"let a=(([1]):Bool);", "Int", "Bool"},
		{"let f=fun x->fun y->([(x,y)]:Unit);", "('v0, 'v1)", "Unit"},
		{lists + "let a=([N]:Int);", "L 'v0", "Int"},
		{lists + "let a=([C 1 N]:L Bool);", "L Int", "L Bool"},
		{lists + "let a=[C 1(C true N)];", "L Int -> L Int", "L Bool -> 'v0"},
		{lists + "let a=[N 1];", "L 'v0", "Int -> 'v1"},
		{lists + "let a=[C 1 N 2];", "L Int", "Int -> 'v0"},
		{"type T 'a 'b=A 'a 'b;type U 'a=B(T 'a 'a);let a=[B(A 1 true)];", "T 'v0 'v0 -> U 'v0", "T Int Bool -> 'v1"},
	})
}

func TestPatternsThatAreApart(t *testing.T) {
	checkApart(t, []apartTypes{
		{"let a=match 1 with[true]->1 end;", "Int", "Bool"},
		{"let a=match true with[1]->1 end;", "Bool", "Int"},
		{"let a=match true with[()]->1 end;", "Bool", "Unit"},
		{"let a=match 1 with[(x,y)]->1 end;", "Int", "('v0, 'v1)"},
		{"let a=match 1 with[(x,(_,1))]->1 end;", "Int", "('v0, ('v1, Int))"},
		{"let a=match fun x->x with[(x,true)]->1 end;", "'v0 -> 'v0", "('v1, Bool)"},
		{"let f=fun x->match x with 1->2|[true]->3 end;", "Int", "Bool"},
		{"let f=fun x->match x with y->y+1|[true]->3 end;", "Int", "Bool"},
		{"let f=fun x->match x with(y,1)->2|[(true,true)]->3 end;", "('v0, Int)", "(Bool, Bool)"},
		{"let f=fun x->fun y->match(x,y)with(_,_)->1|[1]->1 end;", "('v0, 'v1)", "Int"},
		{"let f=fun x->match x with 1->2|_->[true]end;", "Int", "Bool"},
		{"let f=fun x->match x with y->[x y]end;", "'v0", "'v0 -> 'v1"},
		{"let f=fun x->match x with y->y|z->[(z,z)]end;", "'v0", "('v0, 'v0)"},
		{"let f=fun x->match 1 with _->fun y->(x,y)|_->[1]end;", "'v0 -> ('v1, 'v0)", "Int"},
		{lists + "let a=match 1 with[N]->1 end;", "Int", "L 'v0"},
		{lists + "let a=match 1 with[C x y]->1 end;", "Int", "L 'v0"},
		{lists + "let a=match 1 with[C true y]->1 end;", "Int", "L Bool"},
		{lists + "let a=match N with C x[1]->1 end;", "Int", "L 'v0"},
		{lists + "let a=match N with C 1[(x,y)]->1 end;", "('v0, 'v1)", "L Int"},
		{lists + "let a=match N with C 1([C true _])->1 end;", "L Bool", "L Int"},
		{lists + "let a=match N with C 1([C _(C true _)])->1 end;", "L Bool", "L Int"},
		{lists + "let a=match C 1 N with N->1|[C true _]->1 end;", "L Int", "L Bool"},
		{"type T 'a=A 'a('a->Int)'a;let f=fun x->match x with A true _[1]->1 end;", "Int", "Bool"},
		{"type T 'a=A 'a('a->Int)'a;let f=fun x->match x with A _[true]1->1 end;", "Bool", "'v0 -> Int"},
		{"type T 'a=A 'a('a->Int)'a;let f=fun x->match x with A y g z->(y+1,[g true])end;", "Int -> Int", "Bool -> 'v0"},
		{"type T=A Int Bool;let f=fun x->match x with A y[1]->y end;", "Int", "Bool"},
		{"type T=A Int Bool;let f=fun x->match x with A y z->y+[z]end;", "Bool", "Int"},
	})
}

// What comes first is told, though more is wrong behind it.
func TestOrderOfRules(t *testing.T) {
	checkApart(t, []apartTypes{
		{"let a=([1 2],true 3);", "Int", "Int -> 'v0"},
		{"let a=(true,([1 2],true 3));", "Int", "Int -> 'v0"},
		{"let a=([1 2])(true 3);", "Int", "Int -> 'v0"},
		{"let a=1([true 3]);", "Bool", "Int -> 'v0"},
		{"let a=[true]+(1 2);", "Bool", "Int"},
		{"let a=[true]<(1 2);", "Bool", "Int"},
		{"let a=([1 2])+true;", "Int", "Int -> 'v0"},
		{"let a=1+([true 2]);", "Bool", "Int -> 'v0"},
		{"let f=fun x->[(x,x)]+(x+1);", "('v0, 'v0)", "Int"},
		{"let f=fun x->(x+1)+[(x,x)];", "(Int, Int)", "Int"},
		{"let a=if[1]then 1 2 else true 3;", "Int", "Bool"},
		{"let a=if[1 2]then 1 2 else true 3;", "Int", "Int -> 'v0"},
		{"let a=if true then[1 2]else true 3;", "Int", "Int -> 'v0"},
		{"let a=if true then 1 else[true 3];", "Bool", "Int -> 'v0"},
		{"let f=fun x->if x then 1 else[x];", "Int", "Bool"},
		{"let a=let x=[1 2]in true 3;", "Int", "Int -> 'v0"},
		{"let a=let x=1 in[true 3];", "Bool", "Int -> 'v0"},
		{"let a=let rec f=fun x->[1 2]in true 3;", "Int", "Int -> 'v0"},
		{"let a=let rec f=[fun x->f]in true 3;", "'v0", "'v1 -> 'v0"},
		{"let a=match[1 2]with true->1 2 end;", "Int", "Int -> 'v0"},
		{"let a=match 1 with[true]->1 2 end;", "Int", "Bool"},
		{"let a=match 1 with 1->[1 2]|true->3 end;", "Int", "Int -> 'v0"},
		{"let a=match 1 with 1->1|[true]->true end;", "Int", "Bool"},
		{"let a=match 1 with 1->1|2->[true]|true->1 end;", "Int", "Bool"},
		{"let f=fun x->match x with y->[y y]|1->1 end;", "'v0", "'v0 -> 'v1"},
		{"let f=fun x->match x with 1->1|y->[y y]end;", "Int", "Int -> 'v0"},
		{"let a=([1 2]:Bool);", "Int", "Int -> 'v0"},
		{"let f=fun x->((x:Int),[x true]);", "Int", "Bool -> 'v0"},
		{"let f=fun x->(x true,([x]:Int));", "Bool -> 'v0", "Int"},
		{lists + "let f=fun x->match x with(C 1[true],C true 1)->1 end;", "Bool", "L Int"},
		{lists + "let f=fun x->match x with C(C 1[2])(C true N)->1 end;", "Int", "L Int"},
		{lists + "let a=match 1 with[C 1(C 2 N)]->1 2 end;", "Int", "L Int"},
	})
}

func TestBindsAheadOfFaults(t *testing.T) {
	for _, c := range []struct {
		source      string
		want        api.Fault
		left, right string
		binds       string
	}{
		{"let a=1 2;", fault(api.ErrType, 6, 9), "Int", "Int -> 'v0", ""},
		{"let a=1;let b=1 2;let c=3;", fault(api.ErrType, 14, 17), "Int", "Int -> 'v0", "a: Int"},
		{"let f=fun x->x;let a=f 1;let b=f f+1;let c=1 2;", fault(api.ErrType, 31, 34), "'v0 -> 'v0", "Int", "f: 'v0 -> 'v0; a: Int"},
		{"let a=1;let a=true;let rec a=fun x->a;", fault(api.ErrType, 29, 37), "'v0", "'v1 -> 'v0", "a: Int; a: Bool"},
		{"let a=1;type T=A;let b=A;type U=B;let c=b B;", fault(api.ErrType, 40, 43), "T", "U -> 'v0", "a: Int; b: T"},
		{"let a=fun x->x;let b=let y=" + ladderOfOnes(24) + " in y;let c=1;", fault(api.ErrSize, 128, 129), "", "", "a: 'v0 -> 'v0"},
		{"let a=fun x->x;let b=" + ladderOfOnes(24) + ";let c=1;", fault(api.ErrSize, 19, 20), "", "", "a: 'v0 -> 'v0"},
	} {
		r := inferred(t, c.source)
		if told(r.Binds) != c.binds || !sameReport(r, api.Report{Fault: c.want, Left: c.left, Right: c.right, Binds: r.Binds}) {
			t.Errorf("P8: Infer(%q): %+v, want %v, %q, %q, %s", c.source, r, c.want, c.left, c.right, c.binds)
		}
	}
}

func ladderOfOnes(steps int) string {
	return strings.Repeat("(1,", steps) + "1" + strings.Repeat(")", steps)
}

// What is wrong with the source comes first, then the engine, and only then a type.
func TestInferAsksInOrder(t *testing.T) {
	for _, c := range []struct {
		source string
		want   api.Fault
	}{
		{strings.Repeat(" ", api.MaxSource+1), fault(api.ErrLong, 0, 0)},
		{"let x=1", fault(api.ErrSyntax, 7, 7)},
		{"let x=#;", fault(api.ErrLex, 6, 7)},
		{"let x=1 2;let y=z;", fault(api.ErrScope, 16, 17)},
		{"let x=1 2;type T=A U;", fault(api.ErrDecl, 19, 20)},
		{"let x=1;let y=(x:T);", fault(api.ErrDecl, 17, 18)},
		{"let x=1;let y=match x with A->1 end;", fault(api.ErrScope, 27, 28)},
	} {
		for _, engine := range []int{api.EngineW, api.EngineJ, 0, 3, -1} {
			if r := assay.Infer(c.source, engine); !sameReport(r, api.Report{Fault: c.want}) || r.Binds != nil || r.Warns != nil {
				t.Errorf("P8: Infer(%.60q, %d): %+v, want %v", c.source, engine, r, c.want)
			}
		}
	}
	for _, engine := range []int{0, 3, -1, 4, 1 << 40, math.MaxInt, math.MinInt} {
		for _, source := range []string{"", "let x=1;", "let x=1 2;", lists} {
			if r := assay.Infer(source, engine); !sameReport(r, api.Report{Fault: fault(api.ErrScope, 0, 0)}) || r.Binds != nil {
				t.Errorf("P8: Infer(%q, %d): %+v", source, engine, r)
			}
		}
	}
}

func TestInferHasTheFaultsOfScope(t *testing.T) {
	w := &namer{grower{g: readGrammar(), rng: rand.New(rand.NewSource(8))}}
	told := 0
	for range 3000 {
		source := w.program()
		f := assay.Scope(source)
		if f.Kind == api.OK {
			continue
		}
		told++
		for _, engine := range append(bothEngines, 7) {
			if r := assay.Infer(source, engine); !sameReport(r, api.Report{Fault: f}) {
				t.Errorf("P8: Infer(%q, %d): %+v, want %v", source, engine, r, f)
			}
		}
	}
	if told < 1000 {
		t.Errorf("only %d had a fault", told)
	}
}

// growing are sources whose types double, or worse, without being asked for as a whole: an engine that writes them out does not come to an end.
func growing() []string {
	const letters = "abcdeghijklmnopqrstuvwxyz"
	var out []string
	for copies := 1; copies < 9; copies++ {
		for room, params, calls := api.MaxSource-40, "fun a->", []string(nil); ; {
			i := len(calls)
			param := "fun " + letters[i+1:i+2] + "->"
			call := letters[i:i+1] + strings.Repeat(" "+letters[i+1:i+2], copies)
			if room -= len(param) + len("(,)") + len(call); room < 0 || i+2 == len(letters) {
				out = append(out, "let r=let f="+params+nested(calls)+" in 1;")
				slices.Reverse(calls)
				out = append(out, "let r=let f="+params+nested(calls)+" in 1;")
				break
			}
			params, calls = params+param, append(calls, call)
		}
	}
	return append(out,
		"let i=fun x->x;let r="+strings.Repeat("i ", 185)+"1;",
		"let i=fun x->x;let r="+strings.Repeat("i(", 120)+"1"+strings.Repeat(")", 120)+";",
		"let r=fun x->"+strings.Repeat("let x=(x,x)in ", 27)+"1;",
		"let p=fun x->(x,x);let r="+strings.Repeat("p(", 100)+"1"+strings.Repeat(")", 100)+";",
		"let r="+strings.Repeat("let f=fun x->(x,x)in ", 17)+"f;",
		"let r="+strings.Repeat("fun x->", 55)+"x;",
		"let r="+strings.Repeat("1+", 195)+"1;",
	)
}

// nested is a pair of the first of some expressions and the rest.
func nested(list []string) string {
	return "(" + strings.Join(list, ",(") + ",1" + strings.Repeat(")", len(list))
}

func TestTypesThatGrow(t *testing.T) {
	kinds := map[api.Errno]int{}
	for _, source := range growing() {
		r := checkInfer(t, source)
		kinds[r.Fault.Kind]++
	}
	if kinds[api.OK] < 8 || kinds[api.ErrSize] < 8 {
		t.Errorf("only %v", kinds)
	}
}
