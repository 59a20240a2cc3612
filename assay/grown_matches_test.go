package assay_test

import (
	"math/rand"
	"reflect"
	"slices"
	"strings"
	"testing"

	"assay/api"
	"assay/assay"
	"assay/reader"
	"assay/tree"
)

// checkCheck holds both engines' answers against Infer's and, where there is no fault, against the arbiter.
func checkCheck(t *testing.T, source string) api.Report {
	t.Helper()
	want := assay.Infer(source, api.EngineJ)
	if want.Fault.Kind == api.OK {
		want.Warns = toldOfAll(t, source)
	}
	for _, engine := range bothEngines {
		if r := assay.Check(source, engine); !sameReport(r, want) {
			t.Fatalf("P12 to P15: engine %d: Check(%q) = %+v, want %+v", engine, source, r, want)
		}
	}
	return want
}

// counts are how many warns of each kind there are.
func counts(warns []api.Warn) (open, shut int) {
	for _, w := range warns {
		if w.Kind == api.Open {
			open++
		} else {
			shut++
		}
	}
	return open, shut
}

func TestPlantedMatches(t *testing.T) {
	p := &planter{breeder: breeder{rand.New(rand.NewSource(21))}}
	opens, shuts, none, deep := 0, 0, 0, 0
	for range 8000 {
		source := p.planted()
		r := checkCheck(t, source)
		if r.Fault.Kind != api.OK {
			t.Fatalf("Check(%q): %+v", source, r)
		}
		open, shut := counts(r.Warns)
		opens, shuts = opens+open, shuts+shut
		if open+shut == 0 {
			none++
		}
		for _, w := range r.Warns {
			if strings.Contains(w.Witness, " (") {
				deep++
			}
		}
	}
	if opens < 3000 || shuts < 3000 || none < 1000 || deep < 300 {
		t.Errorf("only %d left something out, %d arms were not reached, %d had neither, %d witnesses were deep", opens, shuts, none, deep)
	}
}

// Programs that are changed part by part, with faults and without.
func TestBredChecks(t *testing.T) {
	b := &breeder{rand.New(rand.NewSource(22))}
	kinds, warns := map[api.Errno]int{}, 0
	for i := range 150 {
		source := breedHead + breedBodies[i%len(breedBodies)]
		for range 40 {
			next := b.bred(source)
			r := checkCheck(t, next)
			kinds[r.Fault.Kind]++
			warns += len(r.Warns)
			if r.Fault.Kind == api.OK {
				source = next
			}
		}
	}
	if kinds[api.OK] < 500 || kinds[api.ErrType] < 500 || kinds[api.ErrScope] < 500 || warns < 100 {
		t.Errorf("only %v, %d warns", kinds, warns)
	}
}

// sameWarns tells whether the same is told of two sources that are one program, at the same tokens.
func sameWarns(a, b string, of, and []api.Warn) bool {
	return slices.EqualFunc(of, and, func(v, w api.Warn) bool {
		return v.Kind == w.Kind && v.Witness == w.Witness && nameCount(a, v.From) == nameCount(b, w.From) && nameCount(a, v.To) == nameCount(b, w.To)
	})
}

// What Show writes is the same program, with the same types, of whose matches the same is told.
func TestChecksOfWhatIsShown(t *testing.T) {
	p := &planter{breeder: breeder{rand.New(rand.NewSource(23))}}
	told := 0
	for range 3000 {
		source := p.planted()
		shown, f := assay.Show(source)
		if f != (api.Fault{}) {
			t.Fatalf("Show(%q): %v", source, f)
		}
		if len(shown) > api.MaxSource {
			continue
		}
		if !sameProgram(source, shown) {
			t.Errorf("P15: %q was shown as another program, %q", source, shown)
		}
		r, again := checked(t, source), checkCheck(t, shown)
		if r.Fault != again.Fault || !slices.Equal(r.Binds, again.Binds) || !sameWarns(source, shown, r.Warns, again.Warns) {
			t.Errorf("P15: Check(%q): %+v, but of the same program %q: %+v", source, r, shown, again)
		}
		told += len(r.Warns)
	}
	if told < 1000 {
		t.Errorf("only %d warns", told)
	}
}

// closedOff is a source in which each match has one arm more, at its end.
func closedOff(source, arm string) string {
	program, _ := reader.Program(source)
	var ends []int
	visit(reflect.ValueOf(program), nil, func(part any, _ reflect.Type) {
		if m, ok := part.(tree.Match); ok {
			ends = append(ends, m.To-len("end"))
		}
	})
	slices.Sort(ends)
	for _, end := range slices.Backward(ends) {
		source = source[:end] + "|" + arm + "->1 " + source[end:]
	}
	return source
}

// With an arm `_` at its end a match leaves nothing out, whatever its arms are; and that arm is reached just if the match left something out before.
func TestMatchesThatAreClosedOff(t *testing.T) {
	p := &planter{breeder: breeder{rand.New(rand.NewSource(24))}}
	reached, not := 0, 0
	for range 3000 {
		source := p.planted()
		open, shut := counts(checked(t, source).Warns)
		matches := strings.Count(source, "match ")
		for _, arm := range []string{"_", "z", "(_)"} {
			closed := closedOff(source, arm)
			if len(closed) > api.MaxSource {
				continue
			}
			r := checked(t, closed)
			stillOpen, nowShut := counts(r.Warns)
			if r.Fault.Kind != api.OK || stillOpen > 0 || nowShut != shut+matches-open {
				t.Errorf("P15: Check(%q): %+v; without the arms %d of %d left something out", closed, r, open, matches)
			}
			reached, not = reached+open, not+matches-open
		}
	}
	if reached < 1000 || not < 1000 {
		t.Errorf("%d were reached, %d were not", reached, not)
	}
	checkArms(t, "P15", []arms{
		{"_->1", ""},
		{"0->1|1->1|_->1", ""},
		{"C _ _->1|_->1", ""},
		{"(true,(N,Q 0 _))->1|_->1", ""},
	})
}

// wide is a source with a match on a value of many parts, each one of two: a row of marks for each arm, as many as there is room for.
func wide(rows []string, last string) string {
	source := "type B=X|Y;type T=A" + strings.Repeat(" B", len(rows[0])) + ";let f=fun x->match x with "
	for i, row := range rows {
		arm := strings.NewReplacer("X", " X", "Y", " Y").Replace("A"+row) + "->1"
		if i > 0 {
			arm = "|" + arm
		}
		if len(source+arm+last+" end;") > api.MaxSource {
			break
		}
		source += arm
	}
	return source + last + " end;"
}

// wideRows have marks far apart, so that most of an arm is looked through ahead of the next.
func wideRows(columns, step int) []string {
	var rows []string
	for i := range 2 * columns {
		row := []byte(strings.Repeat("_", columns))
		row[i/2] = "XY"[i%2]
		row[columns-1-i/2*step%columns] = "XY"[i/2%2]
		rows = append(rows, string(row))
	}
	return rows
}

// Where much stands side by side, a search through all of it must come to an end too.
func TestWideMatches(t *testing.T) {
	sources := []string{wide(strings.Fields("_______X_Y_X _________X_X _____Y_____Y _____X_____Y __YYY_XXX_XY _YXYY_XXY__Y _XXYY_XXY_YY _______Y_Y_X ___XY_XXX__Y Y___X_X___XX X___X_X_Y__X ______Y____X ________Y_YX ________X_YX __________XX"), "")}
	for columns := 2; columns < 40; columns++ {
		for step := range 4 {
			sources = append(sources, wide(wideRows(columns, step), ""), wide(wideRows(columns, step), "|_->1"))
		}
	}
	for _, source := range sources {
		if r := checked(t, source); r.Fault.Kind != api.OK {
			t.Errorf("Check(%q): %+v", source, r)
		}
	}
}
