package assay_test

import (
	"cmp"
	"math"
	"slices"
	"strings"
	"testing"

	"assay/api"
	"assay/assay"
)

// warned is a source with marks, and what is told of it: {..} around a match that leaves something out, [..] around a pattern that is never reached. The witnesses are those of the matches, from the left.
func warned(text string, witnesses ...string) (string, []api.Warn) {
	var source []byte
	var want []api.Warn
	var begun []int
	for _, b := range []byte(text) {
		switch b {
		case '{':
			begun = append(begun, len(want))
			want = append(want, api.Warn{Kind: api.Open, From: len(source)})
		case '[':
			begun = append(begun, len(want))
			want = append(want, api.Warn{Kind: api.Shut, From: len(source)})
		case '}', ']':
			want[begun[len(begun)-1]].To = len(source)
			begun = begun[:len(begun)-1]
		default:
			source = append(source, b)
		}
	}
	for i := range want {
		if want[i].Kind == api.Open {
			want[i].Witness, witnesses = witnesses[0], witnesses[1:]
		}
	}
	return string(source), want
}

// checked is what both engines answer.
func checked(t *testing.T, source string) api.Report {
	t.Helper()
	w, j := assay.Check(source, api.EngineW), assay.Check(source, api.EngineJ)
	if !sameReport(w, j) {
		t.Errorf("P15: Check(%q): W: %+v, J: %+v", source, w, j)
	}
	return j
}

// checkWarned holds what is told of a marked source against its marks.
func checkWarned(t *testing.T, promise, text string, witnesses ...string) {
	t.Helper()
	source, want := warned(text, witnesses...)
	r := checked(t, source)
	if r.Fault != (api.Fault{}) || !slices.Equal(r.Warns, want) {
		t.Errorf("%s: Check(%q): %+v, want %+v", promise, source, r, want)
	}
}

// The rows of the document's table that tell Check.
func TestExamplesOfCheck(t *testing.T) {
	for _, c := range []struct {
		source string
		want   api.Report
	}{
		{"let f = fun x -> match x with true -> 1 end;", api.Report{
			Binds: []api.Bind{{Name: "f", Type: "Bool -> Int"}},
			Warns: []api.Warn{{Kind: api.Open, From: 17, To: 43, Witness: "false"}}}},
		{"let f = fun x -> match x with (_, 0) -> 1 | (_, _) -> 2 | _ -> 3 end;", api.Report{
			Binds: []api.Bind{{Name: "f", Type: "('v0, Int) -> Int"}},
			Warns: []api.Warn{{Kind: api.Shut, From: 58, To: 59}}}},
	} {
		if r := checked(t, c.source); !sameReport(r, c.want) {
			t.Errorf("P12: Check(%q): %+v, want %+v", c.source, r, c.want)
		}
	}
}

// With a fault Check answers what Infer does, and tells nothing of matches, wherever these stand.
func TestCheckWithFaults(t *testing.T) {
	const open = "let o=fun x->match x with true->1 end;"
	for _, c := range []struct {
		source string
		want   api.Report
	}{
		{strings.Repeat(" ", api.MaxSource+1), api.Report{Fault: fault(api.ErrLong, 0, 0)}},
		{open + "let x=#;", api.Report{Fault: fault(api.ErrLex, 44, 45)}},
		{open + "let x=1", api.Report{Fault: fault(api.ErrSyntax, 45, 45)}},
		{open + "type T=A U;", api.Report{Fault: fault(api.ErrDecl, 47, 48)}},
		{open + "let x=y;", api.Report{Fault: fault(api.ErrScope, 44, 45)}},
		{open + "let x=match 1 with A->1 end;", api.Report{Fault: fault(api.ErrScope, 57, 58)}},
		{open + "let x=1 2;", api.Report{Fault: fault(api.ErrType, 44, 47), Left: "Int", Right: "Int -> 'v0", Binds: []api.Bind{{Name: "o", Type: "Bool -> Int"}}}},
		{"let x=1 2;" + open, api.Report{Fault: fault(api.ErrType, 6, 9), Left: "Int", Right: "Int -> 'v0"}},
		{"let f=fun x->match x with 1->1|1->1|true->2 end;", api.Report{Fault: fault(api.ErrType, 36, 40), Left: "Int", Right: "Bool"}},
		{open + "let x=" + ladderOfOnes(24) + ";", api.Report{Fault: fault(api.ErrSize, 42, 43), Binds: []api.Bind{{Name: "o", Type: "Bool -> Int"}}}},
	} {
		for _, engine := range bothEngines {
			if r := assay.Check(c.source, engine); !sameReport(r, c.want) || r.Warns != nil || !sameReport(r, assay.Infer(c.source, engine)) {
				t.Errorf("P12: Check(%.60q, %d): %+v, want %+v", c.source, engine, r, c.want)
			}
		}
	}
}

func TestCheckAsksForTheEngine(t *testing.T) {
	for _, engine := range []int{0, 3, -1, 1 << 40, math.MaxInt, math.MinInt} {
		for _, source := range []string{"", "let f=fun x->match x with true->1 end;", "let x=1 2;"} {
			if r := assay.Check(source, engine); !sameReport(r, api.Report{Fault: fault(api.ErrScope, 0, 0)}) || r.Binds != nil || r.Warns != nil {
				t.Errorf("P12: Check(%q, %d): %+v", source, engine, r)
			}
		}
		if r := assay.Check("let x=y;", engine); !sameReport(r, api.Report{Fault: fault(api.ErrScope, 6, 7)}) {
			t.Errorf("P12: Check(let x=y;, %d): %+v", engine, r)
		}
	}
}

// Infer tells nothing of matches; Check has the same binds.
func TestCheckHasTheBindsOfInfer(t *testing.T) {
	for _, source := range []string{
		"",
		lists,
		"let a=1;let b=fun x->x;",
		"let a=1;let f=fun x->match x with 1->true end;let g=fun x->match f x with true->x|true->x end;",
		lists + "let rec map=fun f->fun l->match l with N->N|C x r->C(f x)(map f r)|_->N end;let a=map;",
	} {
		for _, engine := range bothEngines {
			infer, check := assay.Infer(source, engine), assay.Check(source, engine)
			if infer.Warns != nil || check.Fault != (api.Fault{}) || !slices.Equal(infer.Binds, check.Binds) || check.Left != "" || check.Right != "" {
				t.Errorf("P12: engine %d: Infer(%q): %+v, Check: %+v", engine, source, infer, check)
			}
		}
	}
}

// A match in each place where an expression can stand, with nothing around it, or in parentheses.
func TestMatchesEverywhere(t *testing.T) {
	const m = "{match 0 with 0->1|[0]->2 end}"
	for _, text := range []string{
		"let a=%;",
		"let a=(%);",
		"let a=((( % ) ));",
		"let a=fun x->%;",
		"let rec a=fun x->%;",
		"let a=(%,1);",
		"let a=(1,%);",
		"let a=(%:Int);",
		"let a=let x=% in x;",
		"let a=let x=1 in %;",
		"let a=let rec f=fun x->% in f;",
		"let a=let rec f=fun x->x in %;",
		"let a=if(%)<1 then 1 else 2;",
		"let a=if true then % else 2;",
		"let a=if true then 1 else %;",
		"let a=match % with _->1 end;",
		"let a=match 1 with _->% end;",
		"let a=match 1 with 0->1|_->% end;",
		"let a=match 1 with 0->%|_->2 end;",
		"let a=(%)+1;",
		"let a=1+(%);",
		"let a=(%)-1;",
		"let a=1-(%);",
		"let a=1*(%);",
		"let a=(%)*1;",
		"let a=(%)<1;",
		"let a=1<(%);",
		"let a=(fun x->x)(%);",
		"let a=(let f=fun y->y in fun x->let u=% in f)1;",
		"let a=fun f->f(1,fun x->(%));",
		"type T=A Int;let a=A(%);",
		"let b=1;let a=%;type T=A;let c=2;",
	} {
		checkWarned(t, "P12", strings.ReplaceAll(text, "%", m), "1")
	}
}

// Matches one within the other and one beside the other: what is told comes from the left, whichever match it belongs to.
func TestOrderOfWarns(t *testing.T) {
	for _, c := range []struct {
		text      string
		witnesses []string
	}{
		{"let a={match 1 with 0->1 end};let b={match true with true->1 end};", []string{"1", "false"}},
		{"let a=({match 1 with 1->1 end},{match true with false->1 end});", []string{"0", "true"}},
		{"let a={match {match 1 with 0->true end} with true->1 end};", []string{"false", "1"}},
		{"let a={match 1 with 0->{match true with true->1 end} end};", []string{"1", "false"}},
		{"let a={match 1 with 0->{match true with true->1|[true]->2 end}|[0]->{match 2 with 0->1|1->1 end}|[00]->3 end};", []string{"1", "false", "2"}},
		{"let a=match {match 1 with 1->1|[1]->2 end} with _->{match true with true->1|[true]->2 end}|[x]->match x with y->y|[_]->1 end|[1]->2 end;", []string{"0", "false"}},
		{"let a=match match match() with ()->1|[_]->2 end with _->1|[_]->2 end with _->1|[_]->2 end;", nil},
		{"let a={match {match {match 1 with 1->1 end} with 2->2 end} with 3->3 end};", []string{"0", "0", "0"}},
		{"let a=({match 1 with 5->1 end})+({match 1 with 0->1 end})*({match 1 with 0->1|1->1 end});", []string{"0", "1", "2"}},
		{"let a=fun x->match x with true->1|false->2|[true]->3|[false]->4|[_]->5|[y]->6 end;", nil},
		{"let a=fun x->{match(x)with(0)->1|([0])->2|(([0]))->3 end};", []string{"1"}},
	} {
		checkWarned(t, "P12", c.text, c.witnesses...)
		source, _ := warned(c.text, c.witnesses...)
		for _, engine := range bothEngines {
			list := assay.Check(source, engine).Warns
			if !slices.IsSortedFunc(list, func(a, b api.Warn) int {
				return cmp.Or(cmp.Compare(a.From, b.From), cmp.Compare(b.To, a.To))
			}) {
				t.Errorf("P12: Check(%q, %d): %+v", source, engine, list)
			}
		}
	}
}

const valueTypes = lists + "type S=P|Q Int Bool|R;type V=V V;type O=O;type U=A Int|B|D(U)U Bool;"

// arms are a match's, marked, and its witness, if it is to have one.
type arms struct{ text, witness string }

func checkArms(t *testing.T, promise string, list []arms) {
	t.Helper()
	for _, c := range list {
		if c.witness == "" {
			checkWarned(t, promise, valueTypes+"let f=fun x->match x with "+c.text+" end;")
		} else {
			checkWarned(t, promise, valueTypes+"let f=fun x->{match x with "+c.text+" end};", c.witness)
		}
	}
}

func TestWitnessesOfEachHead(t *testing.T) {
	checkArms(t, "P13", []arms{
		{"_->1", ""},
		{"a->a", ""},
		{"true->1", "false"},
		{"false->1", "true"},
		{"true->1|false->2", ""},
		{"false->1|true->2", ""},
		{"true->1|_->2", ""},
		{"()->1", ""},
		{"_->1|[()]->2", ""},
		{"0->1", "1"},
		{"1->1", "0"},
		{"0->1|1->1|2->1", "3"},
		{"2->1|0->1", "1"},
		{"3->1|1->1|0->1|2->1|5->1", "4"},
		{"007->1|00->1", "1"},
		{"999999999->1", "0"},
		{"999999999->1|0->1|1->1", "2"},
		{"0->1|1->1|_->1", ""},
		{"(_,_)->1", ""},
		{"(a,b)->1", ""},
		{"N->1", "C _ _"},
		{"C _ _->1", "N"},
		{"C _ _->1|N->1", ""},
		{"N->1|C a b->1", ""},
		{"P->1", "Q _ _"},
		{"Q _ _->1", "P"},
		{"R->1", "P"},
		{"R->1|P->1", "Q _ _"},
		{"Q _ _->1|P->1", "R"},
		{"Q a b->1|R->1", "P"},
		{"R->1|P->1|Q a _->1", ""},
		{"O->1", ""},
		{"V _->1", ""},
		{"V a->1", ""},
		{"B->1", "A _"},
		{"B->1|A _->1", "D _ _ _"},
		{"D _ _ _->1", "A _"},
		{"D _ _ _->1|A _->2", "B"},
		{"D _ _ _->1|A _->2|B->1", ""},
	})
}

func TestWitnessesOfInnerPatterns(t *testing.T) {
	checkArms(t, "P13", []arms{
		{"(true,_)->1", "(false, _)"},
		{"(_,true)->1", "(_, false)"},
		{"(a,0)->1", "(_, 1)"},
		{"(0,true)->1", "(1, _)"},
		{"(true,0)->1|(false,0)->1", "(false, 1)"},
		{"(true,0)->1|(false,_)->1", "(true, 1)"},
		{"(true,_)->1|(_,false)->2", "(false, true)"},
		{"(_,false)->1|(true,_)->2", "(false, true)"},
		{"(true,true)->1|(false,false)->2", "(false, true)"},
		{"(true,true)->1|(false,_)->2", "(true, false)"},
		{"(true,_)->1|(_,false)->2|(false,true)->3", ""},
		{"((),true)->1", "((), false)"},
		{"(_,(0,()))->1|((),(1,_))->1", "((), (2, _))"},
		{"(_,((),0))->1|((),(_,1))->1", "((), ((), 2))"},
		{"((_,_),_)->1", ""},
		{"((true,_),_)->1|((_,true),_)->2|(_,true)->3", "((false, false), false)"},
		{"((a,true),b)->1", "((_, false), _)"},
		{"(0,0)->1|(1,_)->2", "(2, _)"},
		{"(0,0)->1|(_,_)->2", ""},
		{"(0,0)->1|(1,1)->2|(_,1)->3", "(2, 0)"},
		{"(0,1)->1|(1,1)->2|(_,0)->3", "(2, 1)"},
		{"(0,1)->1|(a,0)->3", "(1, 1)"},
		{"C _ N->1|N->2", "C _ (C _ _)"},
		{"C true N->1|N->2", "C false _"},
		{"C true _->1|C false N->1|N->2", "C false (C _ _)"},
		{"N->1|C _ N->2|C _(C _ _)->3", ""},
		{"N->1|C _ N->2|C _(C _ N)->3", "C _ (C _ (C _ _))"},
		{"N->1|C 0 _->2|C 2 _->3", "C 1 _"},
		{"C 0 N->1|C _(C _ _)->2|N->3", "C 1 N"},
		{"C(C 1 _)_->1|N->1", "C N _"},
		{"C(C 1 _)_->1|C N _->2|N->1", "C (C 0 _) _"},
		{"C(_,())_->1", "N"},
		{"C(0,())_->1|N->1", "C (1, _) _"},
		{"C((),0)_->1|N->1", "C ((), 1) _"},
		{"(N,N)->1|(C _ _,C _ _)->2", "(N, C _ _)"},
		{"(N,_)->1|(_,N)->2", "(C _ _, C _ _)"},
		{"(N,_)->1|(_,N)->2|(C 0 _,C _ _)->3", "(C 1 _, C _ _)"},
		{"Q 0 true->1|P->2", "R"},
		{"Q 0 true->1|P->2|R->3", "Q 1 _"},
		{"Q 0 true->1|Q _ false->1|P->2|R->3", "Q 1 true"},
		{"Q 0 true->1|Q 0 false->2|P->3|R->4", "Q 1 _"},
		{"V(V(V _))->1", ""},
		{"D(A 0)B true->1|A _->2|B->3", "D B _ _"},
		{"D(A 0)_ _->1|D B _ _->1|D(D _ _ _)_ _->1|A _->2|B->3", "D (A 1) _ _"},
		{"D _(D _ _ true)_->1|D _ B _->1|D _(A _)_->1|A _->2|B->3", "D _ (D _ _ false) _"},
	})
}

// An arm that is never reached is told at the span of its pattern, without a witness; parentheses around it alone are not in its span.
func TestArmsNeverReached(t *testing.T) {
	checkArms(t, "P13", []arms{
		{"_->1|[_]->2", ""},
		{"a->1|[_]->2", ""},
		{"_->1|[a]->2", ""},
		{"_->1|[true]->2", ""},
		{"_->1|[()]->2", ""},
		{"_->1|[5]->2", ""},
		{"_->1|[(a,  b)]->2", ""},
		{"_->1|[N]->2|[C _ ( _ )]->3", ""},
		{"_->1|([N])->2|(([C _ _]))->3", ""},
		{"_->1|[C(_)(C(0)(_))]->2", ""},
		{"true->1|[true]->2", "false"},
		{"true->1|false->2|[true]->3|[false]->4", ""},
		{"true->1|false->2|[_]->3", ""},
		{"true->1|_->2|[false]->3", ""},
		{"()->1|[()]->2|[_]->3", ""},
		{"()->1|[a]->2", ""},
		{"0->1|[0]->2", "1"},
		{"0->1|[00]->2|1->3|[001]->4", "2"},
		{"0->1|1->2|_->3|[2]->4", ""},
		{"0->1|1->2|_->3", ""},
		{"(_,0)->1|(_,_)->2|[_]->3", ""},
		{"(_,0)->1|(_,_)->2|[(_,1)]->3", ""},
		{"(true,_)->1|(_,true)->2|[(true,true)]->3|(false,false)->4|[_]->5", ""},
		{"(true,_)->1|(false,true)->2|[(_,true)]->3|(_,false)->4|[(a,b)]->5", ""},
		{"(true,0)->1|(false,0)->2|[(_,0)]->3", "(false, 1)"},
		{"(true,0)->1|(false,1)->2|(_,0)->3|(_,1)->4", "(false, 2)"},
		{"(_,true)->1|(_,false)->2|[(0,_)]->3", ""},
		{"(0,true)->1|(0,false)->2|[(0,_)]->3|(_,_)->4", ""},
		{"N->1|C _ _->2|[C true _]->3|[N]->4|[_]->5", ""},
		{"C 1 _->1|C _ _->2|[C 2 N]->3", "N"},
		{"C _ N->1|C _(C _ _)->2|[C 0 _]->3", "N"},
		{"C true N->1|C false N->2|[C _ N]->3|C _ _->4", "N"},
		{"C 0 N->1|C _ N->2|C 0 _->3|[C 0(C _ _)]->4", "N"},
		{"P->1|R->2|Q _ true->3|Q _ false->4|[Q 0 _]->5", ""},
		{"P->1|R->2|Q 0 true->3|Q _ false->4|Q _ _->5", ""},
		{"P->1|R->2|Q _ _->3|[_]->4", ""},
		{"O->1|[O]->2|[_]->3", ""},
		{"V(V _)->1|[V _]->2", ""},
		{"V _->1|[V(V(V _))]->2", ""},
		{"V(V _)->1|[V(V(V _))]->2|[_]->3", ""},
		{"(N,_)->1|(_,N)->2|[(N,N)]->3|(C _ _,C _ _)->4|[(_,_)]->5", ""},
	})
}

// What is told of an arm hangs on the arms before it alone, and of a match on its own arms alone.
func TestArmsBehind(t *testing.T) {
	checkArms(t, "P13", []arms{
		{"0->1|_->2", ""},
		{"(0,_)->1|(_,0)->2|(_,_)->3", ""},
		{"C _(C _ _)->1|C _ _->2|_->3", ""},
		{"true->match x with true->1|false->2 end|false->match x with true->1|false->2 end", ""},
		{"0->match x with 0->1|[0]->2|_->3 end|_->match x with 0->1|_->2 end", ""},
	})
}

// Types that are declared further on, or with names that are used otherwise too, do not matter.
func TestMakersOfEachType(t *testing.T) {
	for _, c := range []struct {
		text      string
		witnesses []string
	}{
		{"type T=A|B;type U=D|E;let f=fun x->{match x with (A,D)->1|(B,E)->2 end};", []string{"(A, E)"}},
		{"type T=A|B;let f=fun x->{match x with B->1 end};type U=D|E|F;let g=fun x->{match x with E->1|D->2 end};", []string{"A", "F"}},
		{"type T=U|V;type U=T U;type V=W T;let f=fun x->{match x with (V,(T _,W U))->1 end};", []string{"(U, _)"}},
		{"type T 'a=A 'a|B(T(T 'a));let f=fun x->{match x with A true->1|B(A _)->2|B(B _)->3 end};", []string{"A false"}},
		{"type T 'a=A 'a|B(T(T 'a));let f=fun x->{match x with A true->1|A false->1|B(A(A true))->2|B(B _)->3 end};", []string{"B (A (B _))"}},
		{"type T 'a 'b=A 'b 'a|B;let f=fun x->{match x with A 0 true->1|B->2 end};let g=fun x->{match x with A true 0->1|B->2 end};", []string{"A 1 _", "A false _"}},
		{"type T=T T T T|E;let f=fun x->{match x with T E E E->1|E->2 end};", []string{"T (T _ _ _) _ _"}},
		{"type T=T(T->T);let f=fun x->match x with T a->1 end;", nil},
		{"type B=T|F;let f=fun x->{match x with T->1 end};let g=fun x->{match x with F->1 end};", []string{"F", "T"}},
	} {
		checkWarned(t, "P13", c.text, c.witnesses...)
	}
}

// A witness is written as Show writes a pattern: read in its place, it is written again as it is.
func TestWitnessesAreWritten(t *testing.T) {
	const head = "type T=E|F T T|G Bool(Bool,T);"
	for _, c := range []struct{ arms, witness string }{
		{"F _ _->1|G _ _->1", "E"},
		{"E->1|G _ _->1", "F _ _"},
		{"E->1|F _ _->1", "G _ _"},
		{"E->1|G _ _->1|F(E)_->1", "F (F _ _) _"},
		{"E->1|G _ _->1|F(F _ _)_->1", "F E _"},
		{"E->1|G _ _->1|F _(F _ _)->1", "F _ E"},
		{"E->1|G _ _->1|F _ E->1|F _(F _ _)->2", "F _ (G _ _)"},
		{"E->1|G _ _->1|F E E->1|F(F _ _)_->2|F(G _ _)_->3", "F E (F _ _)"},
		{"E->1|F _ _->1|G true _->2", "G false _"},
		{"E->1|F _ _->1|G _(true,_)->2", "G _ (false, _)"},
		{"E->1|F _ _->1|G _(_,E)->2", "G _ (_, F _ _)"},
		{"E->1|F _ _->1|G _(_,E)->2|G _(_,F _ _)->3", "G _ (_, G _ _)"},
		{"(E,_)->1", "(F _ _, _)"},
		{"(_,E)->1", "(_, F _ _)"},
		{"(_,(E,()))->1", "(_, (F _ _, _))"},
		{"((),(0,E))->1", "((), (1, _))"},
		{"((),E)->1", "((), F _ _)"},
		{"(E,F E(F E E))->1|(F _ _,_)->2|(G _ _,_)->3", "(E, E)"},
		{"(E,F E(F E E))->1|(E,E)->1|(E,G _ _)->1|(F _ _,_)->2|(G _ _,_)->3", "(E, F (F _ _) _)"},
		{"00->1|01->1|010->1", "2"},
	} {
		checkWarned(t, "P14", head+"let f=fun x->{match x with "+c.arms+" end};", c.witness)
		alone := "let f = match 1 with " + c.witness + " -> 1 end;\n"
		if shown, f := assay.Show(alone); shown != alone || f != (api.Fault{}) {
			t.Errorf("P14: Show(%q) = %q, %v", alone, shown, f)
		}
	}
}
