package reader

import (
	"reflect"
	"strings"
	"testing"

	"assay/api"
	"assay/tree"
)

// parts lists what a tree is made of, each part ahead of those inside it: its kind, and the text of its span.
func parts(source string, node any) []string {
	var out []string
	var walk func(v reflect.Value)
	walk = func(v reflect.Value) {
		switch v.Kind() {
		case reflect.Interface:
			walk(v.Elem())
		case reflect.Slice:
			for i := range v.Len() {
				walk(v.Index(i))
			}
		case reflect.Struct:
			if part, ok := v.Interface().(interface{ Place() tree.Span }); ok && v.Type().Name() != "Span" {
				at := part.Place()
				out = append(out, v.Type().Name()+" "+source[at.From:at.To])
			}
			for i := range v.NumField() {
				walk(v.Field(i))
			}
		}
	}
	walk(reflect.ValueOf(node))
	return out
}

func TestSpansOfExpressions(t *testing.T) {
	for _, c := range []struct {
		expr string
		want []string
	}{
		{"((a))", []string{"Low a"}},
		{"( 007 )", []string{"Number 007"}},
		{"(true)", []string{"Bool true"}},
		{"(( ))", []string{"Unit ( )"}},
		{"(C)", []string{"Up C"}},
		{"((f) (x))", []string{"Call (f) (x)", "Low f", "Low x"}},
		{"f x (y z)", []string{"Call f x (y z)", "Call f x", "Low f", "Low x", "Call y z", "Low y", "Low z"}},
		{"(a-b) - (c)", []string{"Binary (a-b) - (c)", "Binary a-b", "Low a", "Low b", "Low c"}},
		{"a-b-c", []string{"Binary a-b-c", "Binary a-b", "Low a", "Low b", "Low c"}},
		{"a+b*c<(d)", []string{"Binary a+b*c<(d)", "Binary a+b*c", "Low a", "Binary b*c", "Low b", "Low c", "Low d"}},
		{"((a),b)", []string{"Pair ((a),b)", "Low a", "Low b"}},
		{"(((a),b))", []string{"Pair ((a),b)", "Low a", "Low b"}},
		{"((a):(L(Int)))", []string{"Typed ((a):(L(Int)))", "Low a", "Named L(Int)", "Name L", "Named Int", "Name Int"}},
		{"(fun x->(x))", []string{"Fun fun x->(x)", "Name x", "Low x"}},
		{"let y=(1) in (y)", []string{"Let let y=(1) in (y)", "Name y", "Number 1", "Low y"}},
		{"let rec g=fun x->x in (g)", []string{"Let let rec g=fun x->x in (g)", "Name g", "Fun fun x->x", "Name x", "Low x", "Low g"}},
		{"if (a) then b else (c)", []string{"If if (a) then b else (c)", "Low a", "Low b", "Low c"}},
		{"match (a) with (_)->(1) end", []string{"Match match (a) with (_)->(1) end", "Low a", "Arm (_)->(1)", "Any _", "Number 1"}},
		{"match a with (C(D)x)->1|((b),())->2 end", []string{
			"Match match a with (C(D)x)->1|((b),())->2 end", "Low a",
			"Arm (C(D)x)->1", "Made C(D)x", "Name C", "Made D", "Name D", "Low x", "Number 1",
			"Arm ((b),())->2", "PatternPair ((b),())", "Low b", "Unit ()", "Number 2"}},
	} {
		source := " let v =\n" + c.expr + " ; "
		program, fault := Program(source)
		if fault != (api.Fault{}) || len(program.Decls) != 1 {
			t.Errorf("Program(%q) = %v, %v", source, program, fault)
			continue
		}
		want := append([]string{"LetDecl " + strings.Trim(source, " "), "Name v"}, c.want...)
		if got := parts(source, program.Decls[0]); !reflect.DeepEqual(got, want) {
			t.Errorf("parts of %q:\n got %q\nwant %q", source, got, want)
		}
	}
}

func TestSpansOfTypeDeclarations(t *testing.T) {
	source := "type T 'a 'bc=A(Int->('a))|B;"
	program, fault := Program(source)
	if fault != (api.Fault{}) {
		t.Fatal(fault)
	}
	want := []string{"TypeDecl " + source, "Name T", "Name 'a", "Name 'bc",
		"Maker A(Int->('a))", "Name A", "Arrow Int->('a)", "Named Int", "Name Int", "TypeVar 'a", "Maker B", "Name B"}
	if got := parts(source, program.Decls[0]); !reflect.DeepEqual(got, want) {
		t.Errorf("got %q\nwant %q", got, want)
	}
}

func TestTypes(t *testing.T) {
	for _, c := range []struct {
		text string
		want []string
	}{
		{" ('a)\n", []string{"TypeVar 'a"}},
		{"Int", []string{"Named Int", "Name Int"}},
		{"'a->'b->'c", []string{"Arrow 'a->'b->'c", "TypeVar 'a", "Arrow 'b->'c", "TypeVar 'b", "TypeVar 'c"}},
		{"('a->'b)->'c", []string{"Arrow ('a->'b)->'c", "Arrow 'a->'b", "TypeVar 'a", "TypeVar 'b", "TypeVar 'c"}},
		{"((L)->M)", []string{"Arrow (L)->M", "Named L", "Name L", "Named M", "Name M"}},
		{"L M('a)", []string{"Named L M('a)", "Name L", "Named M", "Name M", "TypeVar 'a"}},
		{"L(M 'a)", []string{"Named L(M 'a)", "Name L", "Named M 'a", "Name M", "TypeVar 'a"}},
		{"('a,('b,'c))", []string{"TypePair ('a,('b,'c))", "TypeVar 'a", "TypePair ('b,'c)", "TypeVar 'b", "TypeVar 'c"}},
	} {
		read, fault := Type(c.text)
		if fault != (api.Fault{}) {
			t.Errorf("P3: Type(%q): %v", c.text, fault)
			continue
		}
		if got := parts(c.text, []tree.Type{read}); !reflect.DeepEqual(got, c.want) {
			t.Errorf("parts of %q:\n got %q\nwant %q", c.text, got, c.want)
		}
	}
}

func TestFaultsOfTypes(t *testing.T) {
	for _, c := range []struct {
		text string
		want api.Fault
	}{
		{strings.Repeat(" ", api.MaxSource-2) + "'a", api.Fault{}},
		{strings.Repeat(" ", api.MaxSource-1) + "'a", api.Fault{Kind: api.ErrLong}},
		{"", api.Fault{Kind: api.ErrSyntax}},
		{" \n", api.Fault{Kind: api.ErrSyntax, From: 2, To: 2}},
		{"int", api.Fault{Kind: api.ErrSyntax, From: 0, To: 3}},
		{"Int;", api.Fault{Kind: api.ErrSyntax, From: 3, To: 4}},
		{"Int->", api.Fault{Kind: api.ErrSyntax, From: 5, To: 5}},
		{"Int->->", api.Fault{Kind: api.ErrSyntax, From: 5, To: 7}},
		{"'a Int", api.Fault{Kind: api.ErrSyntax, From: 3, To: 6}},
		{"(L) Int", api.Fault{Kind: api.ErrSyntax, From: 4, To: 7}},
		{"()", api.Fault{Kind: api.ErrSyntax, From: 1, To: 2}},
		{"(Int,Int,Int)", api.Fault{Kind: api.ErrSyntax, From: 8, To: 9}},
		{"(Int", api.Fault{Kind: api.ErrSyntax, From: 4, To: 4}},
		{"Int)", api.Fault{Kind: api.ErrSyntax, From: 3, To: 4}},
		{"L 1", api.Fault{Kind: api.ErrSyntax, From: 2, To: 3}},
		{"L 'fun", api.Fault{Kind: api.ErrLex, From: 2, To: 6}},
		{"L '", api.Fault{Kind: api.ErrLex, From: 2, To: 3}},
		{"L #", api.Fault{Kind: api.ErrLex, From: 2, To: 3}},
	} {
		read, fault := Type(c.text)
		if fault != c.want || (read == nil) != (c.want.Kind != api.OK) {
			t.Errorf("P3: Type(%.60q) = %v, %v, want %v", c.text, read, fault, c.want)
		}
	}
}

func TestNothingReadWithAFault(t *testing.T) {
	for _, source := range []string{"let x = 1; let", "let x = 1; #", strings.Repeat("let x=1;", 60)} {
		if program, fault := Program(source); fault.Kind == api.OK || program.Decls != nil {
			t.Errorf("P1: Program(%.60q) = %v, %v", source, program, fault)
		}
	}
}

// A panic that is not the reader's own must go through: only its own one tells a fault.
func TestForeignPanicsGoThrough(t *testing.T) {
	for _, foreign := range []any{"a text", 7, api.Fault{Kind: api.ErrSyntax}} {
		caught := func() (caught any) {
			defer func() { caught = recover() }()
			whole("", func(*reader) int { panic(foreign) })
			return nil
		}()
		if caught != foreign {
			t.Errorf("a panic with %v came out as %v", foreign, caught)
		}
	}
}

func TestOwnPanicIsCaught(t *testing.T) {
	want := api.Fault{Kind: api.ErrLex, From: 3, To: 5}
	read, fault := whole("", func(*reader) int { panic(giveUp{want}) })
	if read != 0 || fault != want {
		t.Errorf("got %v, %v, want %v", read, fault, want)
	}
}
