package types

import (
	"reflect"
	"testing"

	"assay/reader"
)

func read(t *testing.T, text string, variable func(string) Type) Type {
	t.Helper()
	r, fault := reader.Type(text)
	if fault.Kind != 0 {
		t.Fatalf("%q: %v", text, fault)
	}
	return Of(r, variable)
}

func TestOf(t *testing.T) {
	a, b := Variable(1), Variable(2)
	for _, c := range []struct {
		text string
		want Type
		size int
	}{
		{"'a", a, 1},
		{"Int", Made{By: "Int", Parts: []Type{}}, 1},
		{"'a->'b->'a", Made{By: Function, Parts: []Type{a, Made{By: Function, Parts: []Type{b, a}}}}, 5},
		{"('x,('y,'x))", Made{By: Pair, Parts: []Type{a, Made{By: Pair, Parts: []Type{b, a}}}}, 5},
		{"T 'b (L 'a) 'b", Made{By: "T", Parts: []Type{a, Made{By: "L", Parts: []Type{b}}, a}}, 5},
	} {
		got := read(t, c.text, Names(Fresh()))
		if !reflect.DeepEqual(got, c.want) || Size(got) != c.size {
			t.Errorf("%q is %v of size %d, want %v of size %d", c.text, got, Size(got), c.want, c.size)
		}
	}
}

// A name stands for one variable in all texts that are read by one closure, and only there.
func TestNames(t *testing.T) {
	fresh := Fresh()
	here, there := Names(fresh), Names(fresh)
	first := read(t, "'a->'b", here)
	if second := read(t, "'a->'b", here); !reflect.DeepEqual(first, second) {
		t.Errorf("%v, then %v", first, second)
	}
	if here("a") == here("b") || here("a") == there("a") || here("b") == there("a") {
		t.Errorf("one variable for two names")
	}
}

func TestFresh(t *testing.T) {
	fresh, other := Fresh(), Fresh()
	met := map[Variable]bool{}
	for range 100 {
		v := fresh()
		if met[v] || v != other() {
			t.Fatalf("%v was handed out twice, or hangs on another closure", v)
		}
		met[v] = true
	}
}
