package types

import (
	"reflect"
	"slices"
	"testing"

	"assay/reader"
)

func read(t *testing.T, text string, variable func(string) Type) Type {
	t.Helper()
	r, fault := reader.Type(text)
	if fault.Kind != 0 {
		t.Fatalf("%q: %v", text, fault)
	}
	return Of(r, variable)
}

func TestOf(t *testing.T) {
	a, b := Variable(1), Variable(2)
	for _, c := range []struct {
		text string
		want Type
		size int
	}{
		{"'a", a, 1},
		{"Int", Made{By: "Int", Parts: []Type{}}, 1},
		{"'a->'b->'a", Made{By: Function, Parts: []Type{a, Made{By: Function, Parts: []Type{b, a}}}}, 5},
		{"('x,('y,'x))", Made{By: Pair, Parts: []Type{a, Made{By: Pair, Parts: []Type{b, a}}}}, 5},
		{"T 'b (L 'a) 'b", Made{By: "T", Parts: []Type{a, Made{By: "L", Parts: []Type{b}}, a}}, 5},
	} {
		got := read(t, c.text, Names(Fresh()))
		if !reflect.DeepEqual(got, c.want) || Size(got) != c.size {
			t.Errorf("%q is %v of size %d, want %v of size %d", c.text, got, Size(got), c.want, c.size)
		}
	}
}

// A name stands for one variable in all texts that are read by one closure, and only there.
func TestNames(t *testing.T) {
	fresh := Fresh()
	here, there := Names(fresh), Names(fresh)
	first := read(t, "'a->'b", here)
	if second := read(t, "'a->'b", here); !reflect.DeepEqual(first, second) {
		t.Errorf("%v, then %v", first, second)
	}
	if here("a") == here("b") || here("a") == there("a") || here("b") == there("a") {
		t.Errorf("one variable for two names")
	}
}

func TestFresh(t *testing.T) {
	fresh, other := Fresh(), Fresh()
	met := map[Variable]bool{}
	for range 100 {
		v := fresh()
		if met[v] || v != other() {
			t.Fatalf("%v was handed out twice, or hangs on another closure", v)
		}
		met[v] = true
	}
}

func TestVariables(t *testing.T) {
	for text, want := range map[string][]Variable{
		"Int": nil, "'a": {1}, "('a,'b)->'a": {1, 2}, "T(L 'b)('a->'b)'c": {1, 2, 3},
	} {
		if got := Variables(read(t, text, Names(Fresh()))); !slices.Equal(got, want) {
			t.Errorf("%q: %v, want %v", text, got, want)
		}
	}
	name := Names(Fresh())
	read(t, "'a->'b", name)
	if got := Variables(read(t, "'b->L('a,'b)", name)); !slices.Equal(got, []Variable{2, 1}) {
		t.Errorf("%v", got)
	}
}

func TestPut(t *testing.T) {
	name := Names(Fresh())
	whole := read(t, "T 'a (L 'b)->('a,Int)", name)
	got := Put(whole, func(v Variable) Type {
		if v == name("a") {
			return read(t, "'b->Bool", name)
		}
		return v
	})
	if want := read(t, "T ('b->Bool) (L 'b)->('b->Bool,Int)", name); !reflect.DeepEqual(got, want) {
		t.Errorf("%v, want %v", got, want)
	}
	if !reflect.DeepEqual(whole, read(t, "T 'a (L 'b)->('a,Int)", name)) {
		t.Errorf("it was changed: %v", whole)
	}
}

func TestClosed(t *testing.T) {
	got := Closed(read(t, "'a->L('b,Int)", Names(Fresh())))
	if Size(got) != 6 || len(Variables(got)) != 0 || !reflect.DeepEqual(got.(Made).Parts[0].(Made).By, "Unit") {
		t.Errorf("%v", got)
	}
}
