package assay_test

import (
	"math/rand"
	"reflect"
	"slices"
	"strings"
	"testing"

	"assay/api"
	"assay/assay"
	"assay/reader"
	"assay/tree"
)

func sameReport(a, b api.Report) bool {
	return a.Fault == b.Fault && a.Left == b.Left && a.Right == b.Right && slices.Equal(a.Binds, b.Binds) && slices.Equal(a.Warns, b.Warns)
}

// breeder changes programs part by part.
type breeder struct {
	rng *rand.Rand
}

func (b *breeder) pick(list []string) string { return list[b.rng.Intn(len(list))] }

// part is an expression, a pattern or a type behind a colon, with its place.
type part struct {
	as reflect.Type
	tree.Span
}

// parts are those of a source that can be put another in the place of.
func parts(source string) []part {
	program, f := reader.Program(source)
	if f.Kind != api.OK {
		return nil
	}
	var out []part
	visit(reflect.ValueOf(program), nil, func(inner any, as reflect.Type) {
		switch as {
		case reflect.TypeFor[tree.Expr](), reflect.TypeFor[tree.Pattern]():
			out = append(out, part{as, inner.(interface{ Place() tree.Span }).Place()})
		}
	})
	return out
}

// Each % is filled with an expression.
var exprForms = strings.Split("x|y|f|g|1|true|()|N|C|P|(%)|(%,%)|fun x->%|fun y->%|fun f->%|let x=% in %|let y=% in %|let f=fun x->% in %|let g=fun y->% in %|let rec f=fun x->% in %|(%)(%)|(%)(%)|f(%)|g(%)|C(%)(%)|P(%)(%)|(%)+(%)|(%)-(%)|(%)*(%)|(%)<(%)|if % then % else %|match % with x->%&_->% end|match % with N->%&C x y->% end|match % with (x,f)->% end|match % with P g y->% end|match % with 0->%&true->% end|(%:Int)|(%:Bool->Int)|(%:L Int)|(%:(Int,Unit))", "|")

var patternForms = strings.Split("_|x|y|f|0|true|()|N|C x _|C _ y|P f y|P _ _|(x,y)|(_,f)|(f,(x,y))|C(x,y)N|C 1 _|P(P x _)y", "|")

// grown is a form filled with expressions of the source, or with small ones.
func (b *breeder) grown(source string, all []part) string {
	form := strings.ReplaceAll(b.pick(exprForms), "&", "|")
	for strings.Contains(form, "%") {
		fill := b.pick([]string{"x", "y", "f", "g", "1", "x", "f", "true", "N", "(x,y)", "fun x->x", "f x", "()"})
		if p := all[b.rng.Intn(len(all))]; b.rng.Intn(3) > 0 && p.as == reflect.TypeFor[tree.Expr]() && p.To-p.From < 60 {
			fill = source[p.From:p.To]
		}
		form = strings.Replace(form, "%", fill, 1)
	}
	return form
}

// bred is a source with one part changed.
func (b *breeder) bred(source string) string {
	all := parts(source)
	p := all[b.rng.Intn(len(all))]
	text := "(" + b.grown(source, all) + ")"
	if p.as == reflect.TypeFor[tree.Pattern]() {
		text = "(" + b.pick(patternForms) + ")"
	}
	out := source[:p.From] + text + source[p.To:]
	if shown, f := assay.Show(out); f.Kind == api.OK {
		out = strings.TrimSpace(shown) // without the parentheses that pile up
	}
	return out
}

const breedHead = "type L 'a = N | C 'a (L 'a); type Q 'a 'b = P ('a -> 'b) (Q 'b 'a); "

var breedBodies = []string{
	"let x = 1; let y = x; let f = fun x -> x; let g = fun x -> f;",
	"let f = fun x -> fun y -> x; let rec g = fun f -> fun x -> match x with N -> N | C x y -> C (f x) (g f y) end; let x = f 1; let y = g x N;",
	"let x = fun f -> fun g -> fun x -> f x (g x); let f = let g = fun y -> (y, y) in (g 1, g true); let rec g = fun x -> g x; let y = 1;",
	"let f = fun x -> let g = fun y -> (x, y) in (g 1, g x); let x = (fun x -> x) (fun y -> y); let g = (f, x); let y = let x = x in x;",
	"let rec f = fun x -> match x with P g y -> if true then g else f y end; let g = P; let x = fun y -> if y < 1 then y else y * 2; let y = (x : Int -> Int);",
	"let f = fun x -> (x, x); let g = fun x -> f (f x); let x = f (g 1); let y = fun x -> g (f x);",
}

// checkInfer holds both engines against the judge.
func checkInfer(t *testing.T, source string) api.Report {
	t.Helper()
	want := judged(t, source)
	for _, engine := range []int{api.EngineW, api.EngineJ} {
		if r := assay.Infer(source, engine); !sameReport(r, want) {
			t.Fatalf("P8 to P11: engine %d: Infer(%q) = %+v, want %+v", engine, source, r, want)
		}
	}
	return want
}

// Programs that are changed part by part, at random: each must be answered as the judge does.
func TestBredPrograms(t *testing.T) {
	b := &breeder{rand.New(rand.NewSource(11))}
	kinds := map[api.Errno]int{}
	for i := range 300 {
		source := breedHead + breedBodies[i%len(breedBodies)]
		for range 60 {
			next := b.bred(source)
			if assay.Scope(next).Kind != api.OK {
				continue
			}
			r := checkInfer(t, next)
			kinds[r.Fault.Kind]++
			if r.Fault.Kind == api.OK || b.rng.Intn(10) == 0 {
				source = next
			}
		}
	}
	if kinds[api.OK] < 2000 || kinds[api.ErrType] < 5000 || kinds[api.ErrSize] < 20 {
		t.Errorf("only %v", kinds)
	}
}

// Programs by the grammar alone, once their names are right, and the same programs as Show writes them.
func TestTypesOfWhatIsShown(t *testing.T) {
	w := &namer{grower{g: readGrammar(), rng: rand.New(rand.NewSource(12))}}
	kinds := map[api.Errno]int{}
	for range 3000 {
		source := w.clean()
		if source == "" {
			continue
		}
		r := checkInfer(t, source)
		kinds[r.Fault.Kind]++
		shown, _ := assay.Show(source)
		if len(shown) > api.MaxSource {
			continue
		}
		again := checkInfer(t, shown)
		if again.Fault.Kind != r.Fault.Kind || again.Left != r.Left || again.Right != r.Right || !slices.Equal(again.Binds, r.Binds) {
			t.Errorf("P15: Infer(%q): %+v, but of the same program %q: %+v", source, r, shown, again)
		}
	}
	if kinds[api.OK] < 300 || kinds[api.ErrType] < 300 {
		t.Errorf("only %v", kinds)
	}
}

// closedTerm is a type without variables.
func (b *breeder) closedTerm(depth int) *term {
	if depth == 0 {
		return name(b.pick([]string{"Int", "Bool", "Unit"}))
	}
	switch b.rng.Intn(5) {
	case 0:
		return name(",", b.closedTerm(depth-1), b.closedTerm(depth-1))
	case 1:
		return name("->", b.closedTerm(depth-1), b.closedTerm(depth-1))
	case 2:
		return name("L", b.closedTerm(depth-1))
	}
	return b.closedTerm(0)
}

// spoiledTerm is a term with one part changed.
func (b *breeder) spoiledTerm(t *term) *term {
	if len(t.parts) == 0 || b.rng.Intn(4) == 0 {
		return b.closedTerm(1)
	}
	out := &term{t.head, slices.Clone(t.parts)}
	i := b.rng.Intn(len(out.parts))
	out.parts[i] = b.spoiledTerm(out.parts[i])
	return out
}

// The types of declarations let just their instances by.
func TestTypesAreGeneral(t *testing.T) {
	b := &breeder{rand.New(rand.NewSource(13))}
	let, not := 0, 0
	for i := range 2000 {
		source := breedHead + breedBodies[i%len(breedBodies)]
		for range b.rng.Intn(8) {
			if next := b.bred(source); assay.Infer(next, api.EngineJ).Fault.Kind == api.OK {
				source = next
			}
		}
		binds := inferred(t, source).Binds
		bind := binds[len(binds)-1]
		found := readTerm(bind.Type)
		known := map[string]*term{}
		for _, v := range (&judge{}).variables(found) {
			known[v] = b.closedTerm(2)
		}
		closed := found.put(known)
		if b.rng.Intn(2) == 0 {
			closed = b.spoiledTerm(closed)
		}
		asked := source + "let a=(" + bind.Name + ":" + closed.written(nil) + ");"
		if len(asked) > api.MaxSource || closed.size() > api.MaxSize {
			continue
		}
		want := api.Errno(api.ErrType)
		if equal(found, closed, map[string]*term{}) {
			want = api.OK
			let++
		} else {
			not++
		}
		if r := inferred(t, asked); r.Fault.Kind != want {
			t.Errorf("P15: Infer(%q): %+v, want %v", asked, r, want)
		}
	}
	if let < 300 || not < 300 {
		t.Errorf("%d were let by, %d were not", let, not)
	}
}
