package assay_test

import (
	"math/rand"
	"reflect"
	"strings"
	"testing"

	"assay/api"
	"assay/assay"
	"assay/reader"
	"assay/tree"
)

func fault(kind api.Errno, from, to int) api.Fault {
	return api.Fault{Kind: kind, From: from, To: to}
}

func TestShow(t *testing.T) {
	for _, c := range []struct{ source, want string }{
		{"", ""},
		{"\n \n", ""},
		{"let id=fun x->(x);", "let id = fun x -> x;\n"},
		{"\n let\nx=1\n;let y=2;type T=A;", "let x = 1;\nlet y = 2;\ntype T = A;\n"},
		{"let x=000;", "let x = 0;\n"},
		{"let x=f 010 100;", "let x = f 10 100;\n"},
		{"let x=1a;", "let x = 1 a;\n"},
		{"let x=f( )((()));", "let x = f () ();\n"},
		{"let x=((1),(2));", "let x = (1, 2);\n"},
		{"let x=(fun x->x,fun y->y);", "let x = (fun x -> x, fun y -> y);\n"},
		{"let x=((fun x->x):Int->Int);", "let x = (fun x -> x : Int -> Int);\n"},
		{"let x=fun x->(x:Int);", "let x = fun x -> (x : Int);\n"},
		{"let x=(((x:Int)));", "let x = (x : Int);\n"},
		{"let x=((a:Int),(b:Int));", "let x = ((a : Int), (b : Int));\n"},
		{"let x=(a:(Int,(Bool)));", "let x = (a : (Int, Bool));\n"},
		{"let x=(a*b)+c;", "let x = a * b + c;\n"},
		{"let x=a*(b+c);", "let x = a * (b + c);\n"},
		{"let x=a*(b*c);", "let x = a * (b * c);\n"},
		{"let x=a+(b-c);", "let x = a + (b - c);\n"},
		{"let x=(a-b)+c;", "let x = a - b + c;\n"},
		{"let x=(a<b)+c;", "let x = (a < b) + c;\n"},
		{"let x=(a<b)<(c<d);", "let x = (a < b) < (c < d);\n"},
		{"let x=(a-b)<(c*d);", "let x = a - b < c * d;\n"},
		{"let x=(a+b) (c*d);", "let x = (a + b) (c * d);\n"},
		{"let x=(f a)*(g b);", "let x = f a * g b;\n"},
		{"let x=((f a) b) (c (d e));", "let x = f a b (c (d e));\n"},
		{"let x=(C a) b;", "let x = C a b;\n"},
		{"let x=a<(fun x->x);", "let x = a < (fun x -> x);\n"},
		{"let x=(let y=1 in y)+1;", "let x = (let y = 1 in y) + 1;\n"},
		{"let x=(match a with _->1 end)*2;", "let x = (match a with _ -> 1 end) * 2;\n"},
		{"let x=let y=(let z=1 in z) in (let w=2 in w);", "let x = let y = let z = 1 in z in let w = 2 in w;\n"},
		{"let x=if(if a then b else c)then(if d then e else f)else(a<b);", "let x = if if a then b else c then if d then e else f else a < b;\n"},
		{"let x=let rec f=fun x->(fun y->(f))in(f);", "let x = let rec f = fun x -> fun y -> f in f;\n"},
		{"let x=match(a)with((((a)),((C)))) ->(1)|(C(D)(E 1)_)->(2)end;", "let x = match a with (a, C) -> 1 | C D (E 1) _ -> 2 end;\n"},
		{"let x=match a with 007->1|true->2|(false)->3|( )->4 end;", "let x = match a with 7 -> 1 | true -> 2 | false -> 3 | () -> 4 end;\n"},
		{"let x=match a with C()((D)) ((a),(b)) (((C 1))) ->1 end;", "let x = match a with C () D (a, b) (C 1) -> 1 end;\n"},
		{"type T=A((('a)))((Int))|B(('a,(Int)))((L(M 'a)(N)));", "type T = A 'a Int | B ('a, Int) (L (M 'a) N);\n"},
		{"type T=A(((Int->Bool)->Unit)->(Int->Int));", "type T = A (((Int -> Bool) -> Unit) -> Int -> Int);\n"},
		{"type T=A((L Int)->(Int,Int->Int));", "type T = A (L Int -> (Int, Int -> Int));\n"},
	} {
		if got, f := assay.Show(c.source); got != c.want || f != (api.Fault{}) {
			t.Errorf("P4: Show(%q) = %q, %v, want %q", c.source, got, f, c.want)
		}
	}
}

func TestFaultsOfTokens(t *testing.T) {
	for _, c := range []struct {
		source string
		want   api.Fault
	}{
		{strings.Repeat(" ", api.MaxSource), api.Fault{}},
		{strings.Repeat(" ", api.MaxSource+1), fault(api.ErrLong, 0, 0)},
		{strings.Repeat("let x=1;", api.MaxSource/8), api.Fault{}},
		{strings.Repeat("let x=1;", api.MaxSource/8) + " ", fault(api.ErrLong, 0, 0)},
		{strings.Repeat("?", 100000), fault(api.ErrLong, 0, 0)},
		{strings.Repeat(" ", api.MaxSource-1) + "?", fault(api.ErrLex, 399, 400)},
		{"let x=1;\t", fault(api.ErrLex, 8, 9)},
		{"let x=1;\r\n", fault(api.ErrLex, 8, 9)},
		{"let x=\x00;", fault(api.ErrLex, 6, 7)},
		{"let x=é;", fault(api.ErrLex, 6, 7)},
		{"let x=\xff;", fault(api.ErrLex, 6, 7)},
		{"let xé=1;", fault(api.ErrLex, 5, 6)},
		{"let x_=1;", fault(api.ErrSyntax, 5, 6)},
		{"let x=a>b;", fault(api.ErrLex, 7, 8)},
		{"let x=a--b;", fault(api.ErrSyntax, 8, 9)},
		{"let x=a->b;", fault(api.ErrSyntax, 7, 9)},
		{"let x=a- >b;", fault(api.ErrLex, 9, 10)},
		{"let x=\"a\";", fault(api.ErrLex, 6, 7)},
		{"let x=999999999;", api.Fault{}},
		{"let x=9999999999;", fault(api.ErrLex, 6, 16)},
		{"let x=12345678901234567890123a;", fault(api.ErrLex, 6, 29)},
		{"let 0123456789=1;", fault(api.ErrLex, 4, 14)},
		{"'", fault(api.ErrLex, 0, 1)},
		{"type T '", fault(api.ErrLex, 7, 8)},
		{"type T ' a=A;", fault(api.ErrLex, 7, 8)},
		{"type T ''a=A;", fault(api.ErrLex, 7, 8)},
		{"type T 'a'b=A;", api.Fault{}},
		{"type T 'type=A;", fault(api.ErrLex, 7, 12)},
		{"type T 'types 'inA 'fun1=A;", api.Fault{}},
		{"type T 'A=A;", fault(api.ErrLex, 7, 8)},
		{"type T '_=A;", fault(api.ErrLex, 7, 8)},
		{"# let", fault(api.ErrLex, 0, 1)},
		{"let = #", fault(api.ErrSyntax, 4, 5)},
		{"let x # =", fault(api.ErrLex, 6, 7)},
	} {
		if shown, f := assay.Show(c.source); f != c.want || f.Kind != api.OK && shown != "" {
			t.Errorf("P3: Show(%.60q) = %q, %v, want %v", c.source, shown, f, c.want)
		}
	}
}

// Each word may stand where the grammar has it and nowhere else; in particular none is a low name.
func TestWordsAreNoLowNames(t *testing.T) {
	for _, word := range wordList {
		for _, c := range []struct{ head, tail string }{
			{"let x=fun ", "->1;"},
			{"let x=let y=1 in let rec ", "=fun x->x in y;"},
			{"let rec ", "=fun x->x;"},
		} {
			want := fault(api.ErrSyntax, len(c.head), len(c.head)+len(word))
			if _, f := assay.Show(c.head + word + c.tail); f != want {
				t.Errorf("P3: Show(%q): %v, want %v", c.head+word+c.tail, f, want)
			}
			for _, name := range []string{word + "s", word + "A", word + "0"} {
				if _, f := assay.Show(c.head + name + c.tail); f != (api.Fault{}) {
					t.Errorf("P3: Show(%q): %v", c.head+name+c.tail, f)
				}
			}
		}
	}
}

func TestNamesThatAreNoWords(t *testing.T) {
	for _, name := range strings.Fields("of and or not where do case int bool unit l le Let lET Type typ") {
		if _, f := assay.Show("let x=f " + name + ";"); f != (api.Fault{}) {
			t.Errorf("P3: %q: %v", name, f)
		}
	}
}

func TestFaultsOfSyntax(t *testing.T) {
	for _, c := range []struct {
		source string
		want   api.Fault
	}{
		{";", fault(api.ErrSyntax, 0, 1)},
		{"fun x->x", fault(api.ErrSyntax, 0, 3)},
		{"let x=1; x", fault(api.ErrSyntax, 9, 10)},
		{"let x=1;let", fault(api.ErrSyntax, 11, 11)},
		{"let x=1\n ", fault(api.ErrSyntax, 9, 9)},
		{"let x=a<b<c;", fault(api.ErrSyntax, 9, 10)},
		{"let x=a+b<c*d<e;", fault(api.ErrSyntax, 13, 14)},
		{"let x=a<fun y->y;", fault(api.ErrSyntax, 8, 11)},
		{"let x=match a with b->c end+1;", fault(api.ErrSyntax, 27, 28)},
		{"let x=match a with b->c end d;", fault(api.ErrSyntax, 28, 29)},
		{"let x=match a with (b)c->d end;", fault(api.ErrSyntax, 22, 23)},
		{"let x=match a with (C)d->d end;", fault(api.ErrSyntax, 22, 23)},
		{"let x=match a with (b,c,d)->e end;", fault(api.ErrSyntax, 23, 24)},
		{"let x=match a with -1->e end;", fault(api.ErrSyntax, 19, 20)},
		{"let x=match a with C->e|end;", fault(api.ErrSyntax, 24, 27)},
		{"let x=let rec f=(fun y->y) in f;", fault(api.ErrSyntax, 16, 17)},
		{"let x=let rec y=1 in y;", fault(api.ErrSyntax, 16, 17)},
		{"let rec X=fun y->y;", fault(api.ErrSyntax, 8, 9)},
		{"let x=let y=1 in;", fault(api.ErrSyntax, 16, 17)},
		{"let x=let y=1;let z=2;", fault(api.ErrSyntax, 13, 14)},
		{"let x=if a then b else;", fault(api.ErrSyntax, 22, 23)},
		{"let x=(a:Int:Int);", fault(api.ErrSyntax, 12, 13)},
		{"let x=(a,b:Int);", fault(api.ErrSyntax, 10, 11)},
		{"let x=a:Int;", fault(api.ErrSyntax, 7, 8)},
		{"let x=a,b;", fault(api.ErrSyntax, 7, 8)},
		{"let x=);", fault(api.ErrSyntax, 6, 7)},
		{"let x=(a));", fault(api.ErrSyntax, 9, 10)},
		{"type T 'a 'a=A|A;", api.Fault{}},
		{"type T=A->B;", fault(api.ErrSyntax, 8, 10)},
		{"type T=(A);", fault(api.ErrSyntax, 7, 8)},
		{"type T=A();", fault(api.ErrSyntax, 9, 10)},
		{"type T=A(B,C,D);", fault(api.ErrSyntax, 12, 13)},
		{"type T=A('a B);", fault(api.ErrSyntax, 12, 13)},
		{"type T=A a;", fault(api.ErrSyntax, 9, 10)},
		{"type T U=A;", fault(api.ErrSyntax, 7, 8)},
		{"type 'a=A;", fault(api.ErrSyntax, 5, 7)},
		{"type T=|A;", fault(api.ErrSyntax, 7, 8)},
	} {
		if shown, f := assay.Show(c.source); f != c.want || f.Kind != api.OK && shown != "" {
			t.Errorf("P3: Show(%q) = %q, %v, want %v", c.source, shown, f, c.want)
		}
	}
}

// Behind each token of programs that have all of the grammar: every other token, and the end.
func TestEveryTokenEverywhere(t *testing.T) {
	g := readGrammar()
	tokens := append(tokensOf("x C 'a 5 -> ( ) , ; : = | + - * < _"), wordList...)
	tokens = append(tokens, "", "'in", "#")
	for _, source := range []string{
		"type T 'a = A (Int -> T 'a, 'a) (U) 'a | B; let x = (a + b * f c - 1 < (d, ()), true);",
		"let rec f = fun x -> let y = (x : L ('a -> Int) -> Int) in if x then f x else false; let z = 1;",
		"let x = match (a) with C D (E e, 1) _ () true (b) -> 1 | _ -> let rec g = fun x -> x in g end;",
	} {
		if _, f := assay.Show(source); f != (api.Fault{}) {
			t.Fatalf("P3: Show(%q): %v", source, f)
		}
		row := tokensOf(source)
		for n := range len(row) + 1 {
			for _, token := range tokens {
				text := strings.Join(row[:n], " ") + " " + token
				want := expectedFault(g, "program", text)
				if _, f := assay.Show(text); f != want {
					t.Errorf("P3: Show(%q): %v, want %v", text, f, want)
				}
			}
		}
	}
}

// shape is a tree without its spans: two sources are the same program if their shapes are equal.
func shape(v reflect.Value) any {
	switch v.Kind() {
	case reflect.Interface:
		return shape(v.Elem())
	case reflect.Slice:
		out := []any{"list"}
		for i := range v.Len() {
			out = append(out, shape(v.Index(i)))
		}
		return out
	case reflect.Struct:
		out := []any{v.Type().Name()}
		for i := range v.NumField() {
			if v.Field(i).Type() != reflect.TypeFor[tree.Span]() {
				out = append(out, shape(v.Field(i)))
			}
		}
		return out
	}
	return v.Interface()
}

func sameProgram(a, b string) bool {
	p, f := reader.Program(a)
	q, g := reader.Program(b)
	return f == (api.Fault{}) && g == (api.Fault{}) && reflect.DeepEqual(shape(reflect.ValueOf(p)), shape(reflect.ValueOf(q)))
}

// tokensOf cuts a text that has no fault.
func tokensOf(text string) []string {
	var out []string
	for text = strings.TrimLeft(text, " \n"); text != ""; text = strings.TrimLeft(text, " \n") {
		token := tokenForm.FindString(text)
		out = append(out, token)
		text = text[len(token):]
	}
	return out
}

// laidOut is a row of tokens with the blanks that P4 asks for.
func laidOut(tokens []string) string {
	text := strings.Join(tokens, " ")
	for _, c := range [][2]string{{"( ", "("}, {" )", ")"}, {" ,", ","}, {" ;", ";"}} {
		text = strings.ReplaceAll(text, c[0], c[1])
	}
	text = strings.ReplaceAll(text, "; ", ";\n")
	if text != "" {
		text += "\n"
	}
	return text
}

// partner is the place of the `)` of the `(` at a place, and whether `,` or `:` stands between them, or nothing.
func partner(tokens []string, open int) (int, bool) {
	depth, needed := 0, tokens[open+1] == ")"
	for i := open; ; i++ {
		switch tokens[i] {
		case "(":
			depth++
		case ")":
			if depth--; depth == 0 {
				return i, needed
			}
		case ",", ":":
			needed = needed || depth == 1
		}
	}
}

func checkShown(t *testing.T, source, shown string) {
	t.Helper()
	tokens := tokensOf(shown)
	if laid := laidOut(tokens); laid != shown {
		t.Errorf("P4: Show(%q) = %q, should be laid out as %q", source, shown, laid)
	}
	if len(shown) > api.MaxSource {
		return
	}
	if again, f := assay.Show(shown); again != shown || f != (api.Fault{}) {
		t.Errorf("P4: Show(%q) = %q, %v", shown, again, f)
	}
	if !sameProgram(source, shown) {
		t.Errorf("P4: %q was shown as another program, %q", source, shown)
	}
	for i, token := range tokens {
		if token != "(" {
			continue
		}
		end, needed := partner(tokens, i)
		without := laidOut(append(append(append([]string{}, tokens[:i]...), tokens[i+1:end]...), tokens[end+1:]...))
		if !needed && sameProgram(shown, without) {
			t.Errorf("P4: Show(%q) = %q: %q is the same program", source, shown, without)
		}
	}
}

// Texts made by the document's grammar, some of them spoilt: the fault must be the one that the grammar tells, and what is shown must keep to P4.
func TestGrownPrograms(t *testing.T) {
	g := readGrammar()
	w := &grower{g: g, rng: rand.New(rand.NewSource(1))}
	good := 0
	for i := range 6000 {
		w.room = w.rng.Intn(70)
		tokens := w.grow("program")
		if i%2 == 0 {
			tokens = w.spoil(tokens)
		}
		source := w.join(tokens)
		want := expectedFault(g, "program", source)
		shown, f := assay.Show(source)
		if f != want {
			t.Fatalf("P3: Show(%q): %v, want %v", source, f, want)
		}
		if f.Kind != api.OK {
			if shown != "" {
				t.Errorf("P1: Show(%q) = %q, %v", source, shown, f)
			}
			continue
		}
		if shown != "" {
			good++
		}
		checkShown(t, source, shown)
	}
	if good < 1000 {
		t.Errorf("only %d programs were shown", good)
	}
}

func TestGrownExpressions(t *testing.T) {
	g := readGrammar()
	w := &grower{g: g, rng: rand.New(rand.NewSource(2))}
	for range 4000 {
		w.room = w.rng.Intn(60)
		source := "let x=" + w.join(w.grow("expr")) + ";"
		if len(source) > api.MaxSource {
			continue
		}
		shown, f := assay.Show(source)
		if f != (api.Fault{}) {
			t.Fatalf("P3: Show(%q): %v", source, f)
		}
		checkShown(t, source, shown)
	}
}

func TestGrownTypes(t *testing.T) {
	g := readGrammar()
	w := &grower{g: g, rng: rand.New(rand.NewSource(3))}
	for i := range 4000 {
		w.room = w.rng.Intn(40)
		tokens := w.grow("type")
		if i%2 == 0 {
			tokens = w.spoil(tokens)
		}
		text := w.join(tokens)
		want := expectedFault(g, "type", text)
		if _, f := reader.Type(text); f != want {
			t.Fatalf("P3: Type(%q): %v, want %v", text, f, want)
		}
	}
}
