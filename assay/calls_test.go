package assay_test

import (
	"math"
	"math/rand"
	"reflect"
	"slices"
	"strings"
	"sync"
	"testing"

	"assay/api"
	"assay/assay"
)

// oddTexts are texts on which a careless reader might fall over or run on.
func oddTexts() []string {
	out := []string{"", "'", "-", "\x00", "\xff\xfe", "let", "let x=", "type T", "->", strings.Repeat("x", 1<<20)}
	for b := range 256 {
		out = append(out, string([]byte{byte(b)}), "let x="+string([]byte{byte(b)}), "let x=1"+string([]byte{byte(b)}))
	}
	for _, part := range []string{"(", ")", "()", "f ", "fun x->", "let x=", "if ", "match ", "1+", "1*", "1<", "(1,", "(1:", "'a->", "C ", "C(", "type T=A(", "let x=match a with C(", ";", "'", "('a,", "T 'a ", "('a->'b)->"} {
		for _, n := range []int{1, 2, 50, 400} {
			row := strings.Repeat(part, n)
			out = append(out, row, "let x="+row, "type T=A "+row)
			if len(row) > 390 {
				out = append(out, "let x="+row[:390])
			}
		}
	}
	for _, n := range []int{1, 195, 196} {
		out = append(out, "let x="+strings.Repeat("(", n)+"1"+strings.Repeat(")", n)+";")
	}
	rng := rand.New(rand.NewSource(4))
	alphabet := "letrecinfu xX01'()->,;:=|+*<_ \n#\x80"
	for range 2000 {
		text := make([]byte, rng.Intn(420))
		for i := range text {
			text[i] = alphabet[rng.Intn(len(alphabet))]
		}
		out = append(out, string(text))
	}
	return out
}

func TestEveryCallEnds(t *testing.T) {
	for i, text := range oddTexts() {
		assay.Show(text)
		assay.Canon(text)
		assay.Unify(text, "'a")
		assay.Unify("'a", text)
		assay.Unify(text, text)
		assay.Scope(text)
		for _, engine := range []int{api.EngineW, api.EngineJ, 0, -1, 3, math.MaxInt, math.MinInt} {
			if i%7 == 0 || engine == api.EngineW {
				assay.Infer(text, engine)
				assay.Check(text, engine)
			}
		}
	}
}

func TestNothingButTheFault(t *testing.T) {
	for _, text := range oddTexts() {
		shown, f := assay.Show(text)
		checkAlone(t, "Show", text, f, shown == "")
		canon, f := assay.Canon(text)
		checkAlone(t, "Canon", text, f, canon == "")
		one, ok, f := assay.Unify(text, "'a")
		checkAlone(t, "Unify", text, f, one == "" && !ok)
		one, ok, f = assay.Unify("'a", text)
		checkAlone(t, "Unify behind 'a", text, f, one == "" && !ok)
		checkAlone(t, "Scope", text, assay.Scope(text), true)
		for _, engine := range []int{api.EngineW, api.EngineJ, 0} {
			r := assay.Infer(text, engine)
			read := r.Fault.Kind == api.ErrType || r.Fault.Kind == api.ErrSize
			checkAlone(t, "Infer", text, r.Fault, (r.Binds == nil || read) && r.Warns == nil && (r.Left == "" || r.Fault.Kind == api.ErrType) && (r.Left == "") == (r.Right == ""))
			c := assay.Check(text, engine)
			checkAlone(t, "Check", text, c.Fault, c.Warns == nil && sameReport(c, r))
		}
	}
}

// checkAlone tells of a fault that does not stand alone in its answer, and of one without a kind that has places.
func checkAlone(t *testing.T, call, text string, f api.Fault, nothing bool) {
	t.Helper()
	if f.Kind != api.OK && !nothing || f.Kind == api.OK && f != (api.Fault{}) {
		t.Errorf("P1: %s(%.60q): %v, with more, or without a kind", call, text, f)
	}
}

// A text that is too long and has other faults as well has the one that is named first.
func TestFirstNamedFault(t *testing.T) {
	for _, head := range []string{"#", "x", "let x=1234567890;", "let", "T" + strings.Repeat(" A", 60)} {
		text := head + strings.Repeat(" ", api.MaxSource)
		want := fault(api.ErrLong, 0, 0)
		if _, f := assay.Show(text); f != want {
			t.Errorf("P1: Show(%.20q..): %v", text, f)
		}
		if _, f := assay.Canon(text); f != want {
			t.Errorf("P1: Canon(%.20q..): %v", text, f)
		}
		if _, _, f := assay.Unify(text, "#"); f != want {
			t.Errorf("P1: Unify(%.20q.., #): %v", text, f)
		}
		if f := assay.Scope(text); f != want {
			t.Errorf("P1: Scope(%.20q..): %v", text, f)
		}
		if r := assay.Infer(text, 0); r.Fault != want {
			t.Errorf("P1: Infer(%.20q.., 0): %v", text, r)
		}
		if r := assay.Check(text, 0); r.Fault != want {
			t.Errorf("P1: Check(%.20q.., 0): %v", text, r)
		}
	}
}

// answer is what all calls answer to one text.
type answer struct {
	shown, canon, one                      string
	ok                                     bool
	showFault, canonFault, oneFault, scope api.Fault
	w, j, checkW, checkJ                   api.Report
}

func ask(text string) answer {
	var a answer
	a.shown, a.showFault = assay.Show(text)
	a.canon, a.canonFault = assay.Canon(text)
	a.one, a.ok, a.oneFault = assay.Unify(text, "('x, 'a) -> 'b")
	a.scope = assay.Scope(text)
	a.w = assay.Infer(text, api.EngineW)
	a.j = assay.Infer(text, api.EngineJ)
	a.checkW = assay.Check(text, api.EngineW)
	a.checkJ = assay.Check(text, api.EngineJ)
	return a
}

func TestNothingIsKept(t *testing.T) {
	texts := []string{"let x = 1;", "let y = (2)", "#", "type T 'a = A ('a);", "", strings.Repeat(" ", 500), "let z = f (g x) 003;",
		"let y = x;", "type T = B T | A;", "let z = A;", "let z = match 1 with A -> 1 end;", "let z = (1 : T);", "let z = match 1 with (a, (b, (b, a))) -> c end;",
		"let f=fun x->x;let x=(f 1,f);let y=f f;", "let f=fun x->1;let g=f f;let h=g+1;", "type T 'a=A 'a|B;let f=fun x->match x with A y->y|B->1 end;", "let f=fun x->x x;", "let a=A;",
		"type T=A|B;let f=fun x->match x with A->1 end;", "type T=B|A|C;let f=fun x->match x with A->1|A->match x with B->2 end end;", "let f=fun x->match x with 0->1|1->1 end;",
		"'a", "('b,'a)->'c", "('a,'b)->'a", "'a->'a", "Int", "T" + strings.Repeat(" A", 48)}
	var first []answer
	for _, text := range texts {
		first = append(first, ask(text))
	}
	for i := range texts {
		for j := range texts {
			if a, b := ask(texts[i]), ask(texts[j]); !reflect.DeepEqual(a, first[i]) || !reflect.DeepEqual(b, first[j]) {
				t.Errorf("P2: asked of %.20q, then of %.20q: %v, %v, want %v, %v", texts[i], texts[j], a, b, first[i], first[j])
			}
		}
	}
	var wait sync.WaitGroup
	side := make([][]answer, 8)
	for i := range side {
		wait.Go(func() {
			for _, text := range texts {
				side[i] = append(side[i], ask(text))
			}
		})
	}
	wait.Wait()
	for _, got := range side {
		if !reflect.DeepEqual(got, first) {
			t.Errorf("P2: side by side: %v, want %v", got, first)
		}
	}
}

// A list that came out is the caller's, spare room and all: what is written into it is seen in no other list, and not by the next call.
func TestListsAreTheCallers(t *testing.T) {
	for _, source := range []string{
		"let a=1;let b=true;let c=();let d=a;let e=b 1;",
		"let a=match 1 with 0->1|0->2 end;let b=match a with 1->1|1->2|1->3 end;let c=();",
	} {
		for _, engine := range bothEngines {
			for _, call := range []func(string, int) api.Report{assay.Infer, assay.Check} {
				first, second := call(source, engine), call(source, engine)
				want := second
				want.Binds, want.Warns = slices.Clone(second.Binds), slices.Clone(second.Warns)
				writeOver(first.Binds, api.Bind{Name: "over", Type: "over"})
				if !slices.Equal(first.Warns, want.Warns) {
					t.Errorf("P2: engine %d: writing into Binds changed Warns: %+v", engine, first)
				}
				writeOver(first.Warns, api.Warn{Kind: 9, From: -1, To: -1, Witness: "over"})
				if len(first.Binds) > 0 && first.Binds[0].Name != "over" {
					t.Errorf("P2: engine %d: writing into Warns changed Binds: %+v", engine, first)
				}
				if !sameReport(second, want) || !sameReport(call(source, engine), want) {
					t.Errorf("P2: engine %d: %+v, want %+v", engine, second, want)
				}
			}
		}
	}
}

// writeOver fills a list and its spare room.
func writeOver[T any](list []T, with T) {
	room := list[:cap(list)]
	for i := range room {
		room[i] = with
	}
}
