package enginew

import (
	"reflect"
	"slices"
	"strings"
	"testing"

	"assay/api"
	"assay/reader"
	"assay/types"
	"assay/writer"
)

// texts reads types; one name is one variable in all of them.
func texts(t *testing.T) func(text string) types.Type {
	name := types.Names(types.Fresh())
	return func(text string) types.Type {
		t.Helper()
		read, fault := reader.Type(text)
		if fault.Kind != api.OK {
			t.Fatalf("%q: %v", text, fault)
		}
		return types.Of(read, name)
	}
}

func TestUnify(t *testing.T) {
	for _, c := range []struct {
		a, b, want string
		ok         bool
	}{
		{"'a", "'a", "'v0", true},
		{"'a", "'b", "'v0", true},
		{"Int", "Int", "Int", true},
		{"Int", "Bool", "", false},
		{"L 'a", "L 'a 'a", "", false},
		{"'a", "L 'a", "", false},
		{"L 'a", "'a", "", false},
		{"('a,'b)", "('b,L 'a)", "", false},
		{"('a,'b)", "(L 'b,L 'a)", "", false},
		{"T 'a 'b 'c", "T 'b 'c (L 'a)", "", false},
		{"T 'a 'b 'c", "T 'b 'c 'a", "T 'v0 'v0 'v0", true},
		{"T 'a 'b 'c", "T (L 'b) (L 'c) Int", "T (L (L Int)) (L Int) Int", true},
		{"T 'a 'a 'b", "T (L 'b) (L 'c) Int", "T (L Int) (L Int) Int", true},
		{"T 'a 'a", "T (L 'b) (M 'c)", "", false},
		{"('a->'b)->'c", "'d->'d", "('v0 -> 'v1) -> 'v0 -> 'v1", true},
	} {
		read := texts(t)
		a, b := read(c.a), read(c.b)
		s, ok := unify(a, b)
		if ok != c.ok {
			t.Errorf("%q, %q: %v", c.a, c.b, ok)
		}
		if !ok {
			continue
		}
		left, right := s.of(a), s.of(b)
		if !reflect.DeepEqual(left, right) || writer.Types()(left) != c.want {
			t.Errorf("%q, %q: %v and %v, want %q", c.a, c.b, left, right, c.want)
		}
		checkClosed(t, s)
	}
}

// checkClosed tells of variables that something is put for and that stand in what is put.
func checkClosed(t *testing.T, s substitution) {
	t.Helper()
	for v, put := range s {
		for _, inner := range types.Variables(put) {
			if _, again := s[inner]; again {
				t.Errorf("for %v is put %v, and for %v in it something more", v, put, inner)
			}
		}
	}
}

// A substitution and another behind it do what both do, one after the other.
func TestThen(t *testing.T) {
	read := texts(t)
	a, b, c, d := read("'a").(types.Variable), read("'b").(types.Variable), read("'c").(types.Variable), read("'d").(types.Variable)
	first := substitution{a: read("('b,'c)"), d: read("L 'c")}
	next := substitution{b: read("Int"), c: read("'x->'y")}
	both := first.then(next)
	for _, text := range []string{"'a", "'b", "'c", "'d", "'e", "T 'a 'b 'c 'd 'e", "'d->('a,Int)"} {
		if want, got := next.of(first.of(read(text))), both.of(read(text)); !reflect.DeepEqual(got, want) {
			t.Errorf("%q: %v, want %v", text, got, want)
		}
	}
	checkClosed(t, both)
	if len(first) != 2 || len(next) != 2 || !reflect.DeepEqual(first[a], read("('b,'c)")) || !reflect.DeepEqual(next[c], read("'x->'y")) {
		t.Errorf("changed: %v, %v", first, next)
	}
}

func TestCut(t *testing.T) {
	read := texts(t)
	for _, c := range []struct {
		text  string
		large bool
	}{
		{"'a", false},
		{"T" + strings.Repeat(" 'a", api.MaxSize-1), false},
		{"T" + strings.Repeat(" 'a", api.MaxSize), true},
		{"T 'b 'a" + strings.Repeat(" Int", api.MaxSize) + " 'b 'c", true},
		{"L(T 'b 'a" + strings.Repeat(" Int", api.MaxSize) + " 'b 'c)->'d", true},
	} {
		whole := read(c.text)
		got := cut(whole)
		if large := size(got) > api.MaxSize; large != c.large || size(whole) != types.Size(whole) {
			t.Errorf("%q is of size %d, cut %d", c.text, size(whole), size(got))
		}
		if !slices.Equal(types.Variables(got), types.Variables(whole)) {
			t.Errorf("%q cut: %v", c.text, got)
		}
		if !c.large && !reflect.DeepEqual(got, whole) {
			t.Errorf("%q was cut: %v", c.text, got)
		}
	}
}

// What stands for a type that is too large grows with what is put for its variables, and is never less than too large.
func TestWhatWasCut(t *testing.T) {
	read := texts(t)
	large := cut(read("T 'a 'b" + strings.Repeat(" Int", api.MaxSize)))
	a, b := read("'a").(types.Variable), read("'b").(types.Variable)
	s := substitution{a: large}.then(substitution{b: read("'c->'d")})
	inner := s.of(read("L 'a"))
	if size(inner) <= api.MaxSize || !slices.Equal(types.Variables(s[a]), types.Variables(read("T 'a 'c 'd"))) {
		t.Errorf("%v, %v", s[a], inner)
	}
	if closed := (substitution{a: read("Int"), b: read("Int")}).of(large); size(closed) <= api.MaxSize || len(types.Variables(closed)) > 0 {
		t.Errorf("%v", closed)
	}
}

// Two types of no more than MaxSize that become one of millions of parts.
func TestUnifyOfWhatGrows(t *testing.T) {
	for copies := 1; copies <= 8; copies++ {
		read := texts(t)
		a, b := "Int", "Int"
		levels := 0
		for ; ; levels++ {
			v, next := "'x"+string(rune('a'+levels)), "'x"+string(rune('a'+levels+1))
			many := "T" + strings.Repeat(" "+next, copies)
			nextA, nextB := "("+v+","+a+")", "("+many+","+b+")"
			if levels%2 == 1 {
				nextA, nextB = "("+many+","+a+")", "("+v+","+b+")"
			}
			if size(read(nextA)) > api.MaxSize || size(read(nextB)) > api.MaxSize {
				break
			}
			a, b = nextA, nextB
		}
		s, ok := unify(read(a), read(b))
		if !ok || len(s) != levels {
			t.Fatalf("%q, %q: %v, %v", a, b, s, ok)
		}
		checkClosed(t, s)
		for v, put := range s {
			if size(put) > api.MaxSize && len(types.Variables(put)) != 1 {
				t.Errorf("for %v is put %v", v, put)
			}
		}
		last := read("'x" + string(rune('a'+levels)))
		if _, ok := unify(types.PairOf(read(a), last), types.PairOf(read(b), read("L 'xa"))); ok {
			t.Errorf("%d copies: the last variable would hold itself", copies)
		}
	}
}
