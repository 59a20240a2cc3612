package assay_test

import (
	"math/rand"
	"reflect"
	"slices"
	"strings"
	"testing"

	"assay/api"
	"assay/assay"
	"assay/reader"
	"assay/tree"
)

// marked puts blanks for the marks in a text: what stands between [ and ] is where the fault is. (No token has these bytes.)
func marked(kind api.Errno, text string) (string, api.Fault) {
	from, to := strings.Index(text, "[")+1, strings.Index(text, "]")
	return strings.NewReplacer("[", " ", "]", " ").Replace(text), fault(kind, from, to)
}

func checkMarked(t *testing.T, kind api.Errno, texts []string) {
	t.Helper()
	for _, text := range texts {
		source, want := marked(kind, text)
		if f := assay.Scope(source); f != want {
			t.Errorf("P7: Scope(%q): %v, want %v", source, f, want)
		}
	}
}

func TestScopeWithoutFault(t *testing.T) {
	for _, source := range []string{
		"", " \n",
		"let x=1;",
		"let x=1;let x=x;let x=x x;",
		"let x=fun x->x;",
		"let x=fun x->fun x->x;",
		"let x=fun y->(fun y->y)y;",
		"let x=let x=1 in let x=x in x;",
		"let x=fun y->let y=y in y;",
		"let rec f=fun x->f x;let g=f;",
		"let rec x=fun x->x;",
		"let x=let rec f=fun y->f y in f;",
		"let x=fun y->let rec y=fun z->y z in y;",
		"let x=fun a->match a with a->a|(a,b)->b a|_->a end;",
		"let x=match(1,2)with(a,b)->let a=b in a end;",
		"let x=match 1 with a->match a with a->a end end;",
		"let x=match 1 with a->1|a->a end;",
		"let x=(let y=1 in y,let y=2 in y);",
		"let x=1;let y=if x then x+x else x*x-x<x;",
		"type T=A;type U=B T|C U(T->U,U);",
		"type T=T;type A=A;let x=T;let y=(A:A);",
		"type T=Int|Bool|Unit;let x=Int;",
		"type T 'a 'b=A 'a|B 'b 'b|C(T 'b 'a)|D(T(T 'a 'a)Int)('a->'b);",
		"type T 'a=A 'a;type U 'a=B(T 'a);",
		"type T 'a 'b=A;type U 'b=B(T 'b 'b);",
		"type T 'a=A;let x=(A:T Int);let y=(A:T(T(Int->Bool,Unit)));",
		"type T=A Int Bool;let x=A;let y=A 1;let z=A 1 2 3;",
		"type T=A Int Bool;let f=fun x->match x with A a b->a|A _ _->1|A 1 true->2 end;",
		"type L 'a=N|C 'a(L 'a);let f=fun l->match l with N->1|C x N->x|C x(C y _)->x+y end;",
		"type T=A;let f=fun a->match a with(A,(A,a))->a end;",
		"let x=1;type T=A;let y=(x,A);",
		"let x=(1:Int);let y=(x:(Int->Bool,Unit)->Int);",
	} {
		if f := assay.Scope(source); f != (api.Fault{}) {
			t.Errorf("P7: Scope(%q): %v", source, f)
		}
	}
}

// Typing is not asked of Scope.
func TestScopeAsksNoTypes(t *testing.T) {
	for _, source := range []string{"let x=1 2;", "let x=(1:Bool);", "let w=fun x->x x;", "type T=A;let x=match 1 with A->1|true->()end;", "let x=if 1 then 2 else true;"} {
		if f := assay.Scope(source); f != (api.Fault{}) {
			t.Errorf("P7: Scope(%q): %v", source, f)
		}
	}
}

func TestFaultsOfDeclaredTypes(t *testing.T) {
	checkMarked(t, api.ErrDecl, []string{
		"type [Int]=A;", "type [Bool]=A;", "type [Unit] 'a=A;",
		"type T=A;type [T]=B;", "type T=A;type U=B;type [T] 'a=C;", "type T 'a=A;let x=1;type  [T] =B;",
		"type T 'a ['a]=A;", "type T 'a 'b ['a] 'b=A;", "type T 'ab 'a 'b['ab]=A;",
		"type T=A|[A];", "type T=A|B|[A] Int;", "type T=A Int;type U=B|[A];", "type T=A;let x=A;type U=[A];",
	})
}

func TestFaultsOfMakersTypes(t *testing.T) {
	checkMarked(t, api.ErrDecl, []string{
		"type T=A['a];", "type T 'a=A 'a['b];", "type T 'a=A('a->Int,['ab]);", "type T 'a=A(Int->['b]);",
		"type T 'a=A 'a;type U=B['a];", "type T 'a 'b=A;type U 'a=B['b];", "type T 'a=A(T['b]);",
		"type T=A[U];", "type T=A|B(Int,[U]);", "type T=A[U];type U=B;", "type T=A[A];", "type T=A([U]->T);", "type T=A(T->[U]);",
		"type T=A([U]Int);", "type T 'a=A(T([U]));",
		"type T 'a=A[T];", "type T 'a=A[T]'a;", "type T 'a=A([T]'a 'a);", "type T=A([T] T);", "type T 'a 'b=A([T]'a);",
		"type T=A([Int] Int);", "type T=A([Bool]Int Int);", "type T 'a=A([Unit]'a);", "type T 'a=A(T[T]);",
		"type T 'a=A;type U=B[T];", "type T=A;type U=B([T]U);", "type T 'a=A;type U=B(T Int)([T]Int Int);",
	})
}

func TestFaultsOfLowNames(t *testing.T) {
	checkMarked(t, api.ErrScope, []string{
		"let x=[y];", "let x=[x];", "let x=fun y->[x];", "let x=[y];let y=1;", "let xy=1;let z=[x];", "let x=1;let z=[xy];",
		"let x=(fun y->y)[y];", "let x=([y],fun y->y);", "let x=(fun y->y,[y]);",
		"let x=let y=[y]in y;", "let x=let y=fun z->[y]in y;", "let x=(let y=1 in y)[y];", "let x=let y=let z=1 in z in[z];",
		"let rec f=fun x->[g];let g=1;", "let rec f=fun x->f;let y=[x];", "let x=(let rec f=fun x->f in f)[f];", "let x=let rec f=fun x->f in[x];",
		"let x=(fun y->(fun y->y)y)[y];", "let x=fun y->(let y=1 in y)+[z];",
		"let x=match[y]with y->y end;", "let x=match 1 with y->1|z->[y]end;", "let x=match 1 with(y,z)->1|y->[z]end;", "let x=(match 1 with y->y end)+[y];",
		"let x=match(match 1 with y->y end)with z->[y]end;",
		"let x=[y]+1;", "let x=1-[y];", "let x=[y]*1;", "let x=1<[y];", "let x=if[y]then 1 else 1;", "let x=if 1 then[y]else 1;", "let x=if 1 then 1 else[y];",
		"let x=[y]1;", "let x=1[y];", "let x=([y],1);", "let x=(1,[y]);", "let x=([y]:Int);", "let x=((([y])));",
		"let x=let y=1 in[z];", "let x=match 1 with _->[y]end;",
	})
}

func TestFaultsOfUpNames(t *testing.T) {
	checkMarked(t, api.ErrScope, []string{
		"let x=[A];", "let x=[A];type T=A;", "type T=A;let x=[T];", "let x=[Int];", "type T=A;let x=A[B];", "type T 'a=A 'a;let x=fun y->A[Aa];",
		"let x=match 1 with[A]->1 end;", "let x=match 1 with[A]->1 end;type T=A;", "type T=A;let x=match 1 with A->1|[T]->2 end;", "let x=match 1 with(1,([A]))->1 end;",
		"type T=A Int;let x=match 1 with A[B]->1 end;", "let x=match 1 with[A]1 2->1 end;",
	})
}

func TestFaultsOfPatterns(t *testing.T) {
	checkMarked(t, api.ErrScope, []string{
		"type T=A;let x=match 1 with[A]_->1 end;", "type T=A Int;let x=match 1 with[A]->1 end;", "type T=A Int;let x=match 1 with[A]1 2->1 end;",
		"type T=A Int Int;let x=match 1 with[A]1->1 end;", "type T=A T|B;let x=match 1 with A[A]->1 end;", "type T=A T|B;let x=match 1 with A B->1|A([B]1)->2 end;",
		"type T=A Int;let x=match 1 with(1,([A]))->1 end;", "type T=A(Int,Int);let x=match 1 with A(1,1)->1|[A]1 1->2 end;",
		"let x=match 1 with(a,[a])->1 end;", "let x=match 1 with((a,b),(c,([b],a)))->1 end;", "let x=match 1 with(a,b)->1|(b,[b])->2 end;",
		"type T=A Int Int Int;let x=match 1 with A b c[b]->1 end;", "type T=A Int Int;let x=match 1 with(a,A b[a])->1 end;",
		"let x=fun a->match a with(a,[a])->a end;",
	})
}

func TestFaultsOfTypesBehindColons(t *testing.T) {
	checkMarked(t, api.ErrDecl, []string{
		"let x=(1:['a]);", "let x=(1:Int->['a]);", "let x=(1:(['a],Int));", "type T 'a=A 'a;let x=(1:T['a]);",
		"let x=(1:[T]);", "let x=(1:[T]);type T=A;", "type T=A;let x=(1:[A]);", "let x=(1:(Int,Bool->[T]));",
		"let x=(1:[Int]Bool);", "type T 'a=A;let x=(1:[T]);", "type T 'a=A;let x=(1:[T]Int Int);", "type T=A;let x=(1:[T]Int);", "type T 'a=A;let x=(1:T([T]));",
		"let x=fun y->(y:[T]);", "let x=match(1:[T])with _->1 end;", "let x=match 1 with _->(1:['a])end;",
	})
}

// Of several faults the one with the least From, whatever its kind.
func TestLeastFrom(t *testing.T) {
	checkMarked(t, api.ErrDecl, []string{
		"type [Int] 'a 'a=A U|A;let x=y;", "type T 'a['a]=A U|A;", "type T=A|[A]U;let x=y;", "type T=A['b]U;", "type T=A([U]'a Int);", "type T 'a=A([T]'b 'c);",
		"type T 'a=A(T['b])U;", "type T=A[U];type T=A;", "type T=A|[A];type T=B;let x=(1:U);",
		"let x=1;type T=A[U];let y=z;", "let x=(1:[T])y;", "let x=(1:['a]->T)A;", "let x=((1:[T]),y);",
	})
	checkMarked(t, api.ErrScope, []string{
		"let x=[y];type T=A U;", "let x=([y]:T);", "let x=[A](1:T);", "let x=(fun x->[y],z);", "let x=[y]A z;", "let x=[A]y;",
		"let x=match[y]with A->1 end;", "let x=match 1 with[A]a a->b end;", "type T=A Int;let x=match 1 with[A]a a->b end;", "let x=match 1 with(a,([a],B))->b end;",
		"let x=match 1 with a->[b]|(c,c)->d|E->1 end;", "let x=let y=[z]in(1:T);", "let rec f=fun x->[y];type Int=A;", "let x=if[a]then b else c;", "let x=[a]<b;",
	})
}

func TestScopeReadsFirst(t *testing.T) {
	for _, c := range []struct {
		source string
		want   api.Fault
	}{
		{strings.Repeat(" ", api.MaxSource-8) + "let x=1;", api.Fault{}},
		{strings.Repeat(" ", api.MaxSource-7) + "let x=1;", fault(api.ErrLong, 0, 0)},
		{strings.Repeat(" ", api.MaxSource-8) + "let x=y;", fault(api.ErrScope, 398, 399)},
		{"let x=y" + strings.Repeat(" ", api.MaxSource), fault(api.ErrLong, 0, 0)},
		{"let x=y;#", fault(api.ErrLex, 8, 9)},
		{"let x=A;let y='", fault(api.ErrLex, 14, 15)},
		{"type Int=A;let x=1234567890;", fault(api.ErrLex, 17, 27)},
		{"type T 'in=A U;", fault(api.ErrLex, 7, 10)},
		{"let x=y", fault(api.ErrSyntax, 7, 7)},
		{"let x=y;;", fault(api.ErrSyntax, 8, 9)},
		{"type T 'a 'a='a;", fault(api.ErrSyntax, 13, 15)},
		{"let x=(y:T;", fault(api.ErrSyntax, 10, 11)},
		{"let X=y;", fault(api.ErrSyntax, 4, 5)},
	} {
		if f := assay.Scope(c.source); f != c.want {
			t.Errorf("P7: Scope(%.40q): %v, want %v", c.source, f, c.want)
		}
	}
	for _, text := range oddTexts() {
		if _, f := assay.Show(text); f.Kind != api.OK && assay.Scope(text) != f {
			t.Errorf("P7: Scope(%.60q): %v, want %v", text, assay.Scope(text), f)
		}
	}
}

// region is where in the source a name stands for something; takes is how many types, or patterns, it has behind it.
type region struct {
	name     string
	from, to int
	takes    int
}

// facts are what P7 asks about, each part with its place, gathered from a program in no order that matters: the faults are then found by comparing places, without going through the program as a whole.
type facts struct {
	typeNames, makerNames, lows []region
	types, makers               []tree.Name   // declared
	rows                        [][]tree.Name // of names among which none may stand twice: a type's variables, a pattern's low names
	lowUses, upUses             []tree.Name
	made                        []tree.Made
	variables                   []tree.Name // that nobody owns
	named                       []tree.Named
}

const farRight = 1 << 30

func over(name string, s tree.Span) region {
	return region{name: name, from: s.From, to: s.To}
}

// visit goes to every struct in a tree, and tells as what it stands there.
func visit(v reflect.Value, as reflect.Type, see func(part any, as reflect.Type)) {
	switch v.Kind() {
	case reflect.Interface:
		visit(v.Elem(), v.Type(), see)
	case reflect.Slice:
		for i := range v.Len() {
			visit(v.Index(i), nil, see)
		}
	case reflect.Struct:
		see(v.Interface(), as)
		for i := range v.NumField() {
			visit(v.Field(i), nil, see)
		}
	}
}

func gather(p tree.Program) *facts {
	f := &facts{typeNames: []region{{"Int", 0, farRight, 0}, {"Bool", 0, farRight, 0}, {"Unit", 0, farRight, 0}}}
	var owned []region
	var variables []tree.Name
	visit(reflect.ValueOf(p), nil, func(part any, as reflect.Type) {
		switch part := part.(type) {
		case tree.TypeDecl:
			f.types = append(f.types, part.Name)
			f.rows = append(f.rows, part.Params)
			f.typeNames = append(f.typeNames, region{part.Name.Text, part.Name.From, farRight, len(part.Params)})
			for _, param := range part.Params {
				owned = append(owned, over(param.Text, part.Span))
			}
		case tree.Maker:
			f.makers = append(f.makers, part.Name)
			f.makerNames = append(f.makerNames, region{part.Name.Text, part.To, farRight, len(part.Types)})
		case tree.LetDecl:
			f.lows = append(f.lows, region{part.Name.Text, part.To, farRight, 0})
			if part.Rec {
				f.lows = append(f.lows, over(part.Name.Text, part.Value.Place()))
			}
		case tree.TypeVar:
			variables = append(variables, tree.Name{Span: part.Span, Text: part.Name})
		case tree.Named:
			f.named = append(f.named, part)
		case tree.Up:
			f.upUses = append(f.upUses, tree.Name{Span: part.Span, Text: part.Name})
		case tree.Made:
			f.made = append(f.made, part)
		default:
			f.gatherLow(part, as)
		}
	})
	for _, v := range variables {
		if _, own := find(owned, v); !own {
			f.variables = append(f.variables, v)
		}
	}
	return f
}

func (f *facts) gatherLow(part any, as reflect.Type) {
	switch part := part.(type) {
	case tree.Fun:
		f.lows = append(f.lows, over(part.Param.Text, part.Body.Place()))
	case tree.Let:
		f.lows = append(f.lows, over(part.Name.Text, part.Body.Place()))
		if part.Rec {
			f.lows = append(f.lows, over(part.Name.Text, part.Value.Place()))
		}
	case tree.Arm:
		var row []tree.Name
		visit(reflect.ValueOf(part.Pattern), nil, func(inner any, _ reflect.Type) {
			if low, ok := inner.(tree.Low); ok {
				row = append(row, tree.Name{Span: low.Span, Text: low.Name})
				f.lows = append(f.lows, over(low.Name, part.Body.Place()))
			}
		})
		f.rows = append(f.rows, row)
	case tree.Low:
		if as == reflect.TypeFor[tree.Expr]() {
			f.lowUses = append(f.lowUses, tree.Name{Span: part.Span, Text: part.Name})
		}
	}
}

// find is the first region of a name that has the name's place in it.
func find(regions []region, name tree.Name) (region, bool) {
	i := slices.IndexFunc(regions, func(r region) bool {
		return r.name == name.Text && r.from <= name.From && name.To <= r.to
	})
	if i < 0 {
		return region{}, false
	}
	return regions[i], true
}

// again are those names of a row that stand further left in it as well.
func again(row []tree.Name) []tree.Name {
	var out []tree.Name
	for _, name := range row {
		if slices.ContainsFunc(row, func(n tree.Name) bool { return n.Text == name.Text && n.From < name.From }) {
			out = append(out, name)
		}
	}
	return out
}

// faults are all that P7 lists, in no order.
func (f *facts) faults() []api.Fault {
	var out []api.Fault
	tell := func(kind api.Errno, names ...tree.Name) {
		for _, n := range names {
			out = append(out, fault(kind, n.From, n.To))
		}
	}
	for _, name := range f.types {
		if name.Text == "Int" || name.Text == "Bool" || name.Text == "Unit" {
			tell(api.ErrDecl, name)
		}
	}
	tell(api.ErrDecl, again(f.types)...)
	tell(api.ErrDecl, again(f.makers)...)
	tell(api.ErrDecl, f.variables...)
	for _, row := range f.rows {
		for _, name := range again(row) {
			if name.To-name.From > len(name.Text) { // a variable: its token has a ' too
				tell(api.ErrDecl, name)
			} else {
				tell(api.ErrScope, name)
			}
		}
	}
	for _, named := range f.named {
		if r, ok := find(f.typeNames, named.Name); !ok || r.takes != len(named.Args) {
			tell(api.ErrDecl, named.Name)
		}
	}
	for _, use := range f.lowUses {
		if _, ok := find(f.lows, use); !ok {
			tell(api.ErrScope, use)
		}
	}
	for _, use := range f.upUses {
		if _, ok := find(f.makerNames, use); !ok {
			tell(api.ErrScope, use)
		}
	}
	for _, made := range f.made {
		if r, ok := find(f.makerNames, made.Name); !ok || r.takes != len(made.Args) {
			tell(api.ErrScope, made.Name)
		}
	}
	return out
}

// expectedScope is what P7 says of a source that can be read.
func expectedScope(t *testing.T, source string) api.Fault {
	t.Helper()
	p, f := reader.Program(source)
	if f != (api.Fault{}) {
		t.Fatalf("%q can't be read: %v", source, f)
	}
	all := gather(p).faults()
	if len(all) == 0 {
		return api.Fault{}
	}
	return slices.MinFunc(all, func(a, b api.Fault) int { return a.From - b.From })
}

// namer makes programs of few names, so that many of them stand for something, and mends their names one by one.
type namer struct {
	grower
}

func (w *namer) pick(list string) string {
	fields := strings.Fields(list)
	return fields[w.rng.Intn(len(fields))]
}

func (w *namer) renamed(token string) string {
	switch kindOf(token) {
	case "low":
		return w.pick("x y f")
	case "up":
		return w.pick("T U A B C Int")
	case "variable":
		return w.pick("'a 'b")
	}
	return token
}

func (w *namer) program() string {
	w.room = 10 + w.rng.Intn(50)
	tokens := w.grow("program")
	for i, token := range tokens {
		tokens[i] = w.renamed(token)
	}
	heads := []string{"", "", "type T 'a=A 'a Int|B(T 'a);", "type U=C;let x=1;", "type T=A T|B U;", "let rec f=fun x->f x;", "type U 'a 'b=C 'b('a,'b);let y=2;"}
	return heads[w.rng.Intn(len(heads))] + w.join(tokens)
}

// mended puts something else for the token at a fault, or behind it, at random.
func (w *namer) mended(source string, f api.Fault) string {
	head, token, tail := source[:f.From], source[f.From:f.To], source[f.To:]
	switch w.rng.Intn(6) {
	case 0, 1, 2:
		return head + w.renamed(token) + tail
	case 3:
		return head + w.pick("1 _ Int ()") + tail
	case 4:
		return head + w.pick("z z1 z2 V W D E F 'c 'd") + tail
	}
	return head + token + " " + w.pick("_ Int x 'a") + " " + tail
}

// clean is a program with nothing wrong with its names, or nothing if none came of it.
func (w *namer) clean() string {
	source := w.program()
	for range 200 {
		f := assay.Scope(source)
		if f.Kind == api.OK && readable(source) {
			return source
		}
		if f.Kind != api.ErrDecl && f.Kind != api.ErrScope {
			return ""
		}
		if next := w.mended(source, f); readable(next) {
			source = next
		}
	}
	return ""
}

// readable tells whether a text can be read, and is a program of at least one declaration.
func readable(source string) bool {
	shown, f := assay.Show(source)
	return f == (api.Fault{}) && shown != ""
}

// nameCount is which of the names of a source begins at a place; parentheses and blanks may differ between sources that are the same program.
func nameCount(source string, place int) int {
	count := 0
	for _, token := range tokensOf(source[:place]) {
		if token != "(" && token != ")" {
			count++
		}
	}
	return count
}

func checkScope(t *testing.T, source string) api.Fault {
	t.Helper()
	want := expectedScope(t, source)
	if f := assay.Scope(source); f != want {
		t.Fatalf("P7: Scope(%q): %v, want %v", source, f, want)
	}
	shown, _ := assay.Show(source)
	if len(shown) > api.MaxSource {
		return want
	}
	f := assay.Scope(shown)
	if f.Kind != want.Kind || f.Kind != api.OK && (shown[f.From:f.To] != source[want.From:want.To] || nameCount(shown, f.From) != nameCount(source, want.From)) {
		t.Errorf("P7: Scope(%q): %v, but of the same program %q: %v", source, want, shown, f)
	}
	return want
}

// Programs made by the grammar, each mended for as long as something comes of it: at each step the fault must be the one that the facts tell.
func TestGrownScopes(t *testing.T) {
	w := &namer{grower{g: readGrammar(), rng: rand.New(rand.NewSource(5))}}
	clean, kinds := 0, map[api.Errno]int{}
	for range 1500 {
		source := w.program()
		if !readable(source) {
			continue
		}
		f := checkScope(t, source)
		for try := 0; try < 200 && f.Kind != api.OK; try++ {
			kinds[f.Kind]++
			next := w.mended(source, f)
			if !readable(next) {
				continue
			}
			g := checkScope(t, next)
			if g.Kind == api.OK || g.From > f.From {
				source, f = next, g
			}
		}
		if f.Kind == api.OK {
			clean++
		}
	}
	if clean < 500 || kinds[api.ErrDecl] < 1000 || kinds[api.ErrScope] < 1000 {
		t.Errorf("only %d programs were mended, over %v", clean, kinds)
	}
}
