package assay_test

import (
	"math"
	"math/rand"
	"reflect"
	"strings"
	"sync"
	"testing"

	"assay/api"
	"assay/assay"
)

// oddTexts are texts on which a careless reader might fall over or run on.
func oddTexts() []string {
	out := []string{"", "'", "-", "\x00", "\xff\xfe", "let", "let x=", "type T", "->", strings.Repeat("x", 1<<20)}
	for b := range 256 {
		out = append(out, string([]byte{byte(b)}), "let x="+string([]byte{byte(b)}), "let x=1"+string([]byte{byte(b)}))
	}
	for _, part := range []string{"(", ")", "()", "f ", "fun x->", "let x=", "if ", "match ", "1+", "1*", "1<", "(1,", "(1:", "'a->", "C ", "C(", "type T=A(", "let x=match a with C(", ";", "'"} {
		for _, n := range []int{1, 2, 50, 400} {
			row := strings.Repeat(part, n)
			out = append(out, row, "let x="+row, "type T=A "+row)
			if len(row) > 390 {
				out = append(out, "let x="+row[:390])
			}
		}
	}
	for _, n := range []int{1, 195, 196} {
		out = append(out, "let x="+strings.Repeat("(", n)+"1"+strings.Repeat(")", n)+";")
	}
	rng := rand.New(rand.NewSource(4))
	alphabet := "letrecinfu xX01'()->,;:=|+*<_ \n#\x80"
	for range 2000 {
		text := make([]byte, rng.Intn(420))
		for i := range text {
			text[i] = alphabet[rng.Intn(len(alphabet))]
		}
		out = append(out, string(text))
	}
	return out
}

func TestEveryCallEnds(t *testing.T) {
	for i, text := range oddTexts() {
		assay.Show(text)
		assay.Canon(text)
		assay.Unify(text, "'a")
		assay.Unify("'a", text)
		assay.Scope(text)
		for _, engine := range []int{api.EngineW, api.EngineJ, 0, -1, 3, math.MaxInt, math.MinInt} {
			if i%7 == 0 || engine == api.EngineW {
				assay.Infer(text, engine)
				assay.Check(text, engine)
			}
		}
	}
}

func TestNothingButTheFault(t *testing.T) {
	for _, text := range oddTexts() {
		if shown, f := assay.Show(text); f.Kind != api.OK && shown != "" || f.Kind == api.OK && f != (api.Fault{}) {
			t.Errorf("P1: Show(%.60q) = %.60q, %v", text, shown, f)
		}
	}
}

// A text that is too long and has other faults as well has the one that is named first.
func TestFirstNamedFault(t *testing.T) {
	for _, head := range []string{"#", "x", "let x=1234567890;", "let"} {
		source := head + strings.Repeat(" ", api.MaxSource)
		if _, f := assay.Show(source); f != fault(api.ErrLong, 0, 0) {
			t.Errorf("P1: Show(%.20q..): %v", source, f)
		}
	}
}

type answer struct {
	shown string
	fault api.Fault
}

func TestNothingIsKept(t *testing.T) {
	sources := []string{"let x = 1;", "let y = (2)", "#", "type T 'a = A ('a);", "", strings.Repeat(" ", 500), "let z = f (g x) 003;"}
	ask := func(source string) answer {
		shown, f := assay.Show(source)
		return answer{shown, f}
	}
	var first []answer
	for _, source := range sources {
		first = append(first, ask(source))
	}
	for i := range sources {
		for j := range sources {
			if a, b := ask(sources[i]), ask(sources[j]); a != first[i] || b != first[j] {
				t.Errorf("P2: Show(%.20q), then Show(%.20q): %v, %v, want %v, %v", sources[i], sources[j], a, b, first[i], first[j])
			}
		}
	}
	var wait sync.WaitGroup
	side := make([][]answer, 8)
	for i := range side {
		wait.Go(func() {
			for _, source := range sources {
				side[i] = append(side[i], ask(source))
			}
		})
	}
	wait.Wait()
	for _, got := range side {
		if !reflect.DeepEqual(got, first) {
			t.Errorf("P2: side by side: %v, want %v", got, first)
		}
	}
}
