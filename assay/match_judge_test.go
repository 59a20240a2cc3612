package assay_test

import (
	"cmp"
	"reflect"
	"slices"
	"strconv"
	"strings"
	"testing"

	"assay/api"
	"assay/reader"
	"assay/tree"
)

// arbiter tells of matches in two ways that the program does not go: by the document's search, word by word, and by trying all values.
type arbiter struct {
	families [][]begin // of each declared type what its values begin with, in order
}

// begin is what a value can begin with; with an empty name, any.
type begin struct {
	name  string
	parts int
}

// form is a pattern, or a value: what it begins with, and its parts.
type form struct {
	begin
	inner []form
}

func newArbiter(p tree.Program) *arbiter {
	a := &arbiter{families: [][]begin{{{"false", 0}, {"true", 0}}, {{"()", 0}}, {{",", 2}}}}
	for _, decl := range p.Decls {
		if d, ok := decl.(tree.TypeDecl); ok {
			var family []begin
			for _, m := range d.Makers {
				family = append(family, begin{m.Name.Text, len(m.Types)})
			}
			a.families = append(a.families, family)
		}
	}
	return a
}

// formOf is a pattern as a form.
func formOf(p tree.Pattern) form {
	made := func(name string, inner ...tree.Pattern) form {
		f := form{begin: begin{name, len(inner)}}
		for _, p := range inner {
			f.inner = append(f.inner, formOf(p))
		}
		return f
	}
	switch p := p.(type) {
	case tree.Any, tree.Low:
		return form{}
	case tree.Number:
		return made(strconv.Itoa(p.Value))
	case tree.Bool:
		return made(strconv.FormatBool(p.Value))
	case tree.Unit:
		return made("()")
	case tree.PatternPair:
		return made(",", p.Left, p.Right)
	case tree.Made:
		return made(p.Name.Text, p.Args...)
	}
	panic("no pattern")
}

// written is a form as P14 asks for it.
func (f form) written() string {
	switch f.name {
	case "":
		return "_"
	case ",":
		return "(" + f.inner[0].written() + ", " + f.inner[1].written() + ")"
	}
	text := f.name
	for _, part := range f.inner {
		if part.parts > 0 && part.name != "," {
			text += " (" + part.written() + ")"
		} else {
			text += " " + part.written()
		}
	}
	return text
}

// family are all that values can begin with that are of one type with such a one; of numbers the first n.
func (a *arbiter) family(b begin, n int) []begin {
	for _, family := range a.families {
		if slices.Contains(family, b) {
			return family
		}
	}
	var family []begin
	for i := range n {
		family = append(family, begin{name: strconv.Itoa(i)})
	}
	return family
}

func isNumber(b begin) bool { return b.name != "" && b.name[0] >= '0' && b.name[0] <= '9' }

// search is W(rows, n) of P13.
func (a *arbiter) search(rows [][]form, n int) ([]form, bool) {
	if n == 0 {
		return nil, len(rows) == 0
	}
	var heads []begin
	for _, row := range rows {
		if row[0].name != "" && !slices.Contains(heads, row[0].begin) {
			heads = append(heads, row[0].begin)
		}
	}
	if len(heads) > 0 && !isNumber(heads[0]) && len(heads) == len(a.family(heads[0], 0)) {
		for _, head := range a.family(heads[0], 0) {
			var inner [][]form
			for _, row := range rows {
				switch row[0].begin {
				case head:
					inner = append(inner, slices.Concat(row[0].inner, row[1:]))
				case begin{}:
					inner = append(inner, slices.Concat(make([]form, head.parts), row[1:]))
				}
			}
			if found, ok := a.search(inner, head.parts+n-1); ok {
				return slices.Concat([]form{{head, found[:head.parts]}}, found[head.parts:]), true
			}
		}
		return nil, false
	}
	var rest [][]form
	for _, row := range rows {
		if row[0].name == "" {
			rest = append(rest, row[1:])
		}
	}
	found, ok := a.search(rest, n-1)
	if !ok {
		return nil, false
	}
	if len(heads) == 0 {
		return slices.Concat([]form{{}}, found), true
	}
	family := a.family(heads[0], len(heads)+1)
	first := family[slices.IndexFunc(family, func(b begin) bool { return !slices.Contains(heads, b) })]
	return slices.Concat([]form{{first, make([]form, first.parts)}}, found), true
}

// all are values such that each pattern lets all by that are alike to one of them, or none; of numbers one that no pattern has among them.
func (a *arbiter) all(patterns []form) []form {
	i := slices.IndexFunc(patterns, func(p form) bool { return p.name != "" })
	if i < 0 {
		return []form{{begin: begin{name: "whatever"}}}
	}
	family := a.family(patterns[i].begin, 0)
	if isNumber(patterns[i].begin) {
		family = []begin{{name: "1000000000"}}
		for _, p := range patterns {
			if p.name != "" && !slices.Contains(family, p.begin) {
				family = append(family, p.begin)
			}
		}
	}
	var out []form
	for _, b := range family {
		rows := [][]form{nil}
		for part := range b.parts {
			var inner []form
			for _, p := range patterns {
				if p.begin == b {
					inner = append(inner, p.inner[part])
				}
			}
			var longer [][]form
			for _, row := range rows {
				for _, value := range a.all(inner) {
					longer = append(longer, append(slices.Clone(row), value))
				}
			}
			rows = longer
		}
		for _, row := range rows {
			out = append(out, form{b, row})
		}
	}
	return out
}

func lets(p, value form) bool {
	if p.name == "" {
		return true
	}
	if p.begin != value.begin {
		return false
	}
	for i := range p.inner {
		if !lets(p.inner[i], value.inner[i]) {
			return false
		}
	}
	return true
}

func anyLets(patterns []form, value form) bool {
	return slices.ContainsFunc(patterns, func(p form) bool { return lets(p, value) })
}

// told is what P13 says of one match.
func (a *arbiter) told(t *testing.T, m tree.Match) []api.Warn {
	t.Helper()
	var patterns []form
	for _, arm := range m.Arms {
		patterns = append(patterns, formOf(arm.Pattern))
	}
	var out []api.Warn
	var rows [][]form
	values := a.all(patterns)
	for i, p := range patterns {
		rows = append(rows, []form{p})
		if !slices.ContainsFunc(values, func(v form) bool { return lets(p, v) && !anyLets(patterns[:i], v) }) {
			at := m.Arms[i].Pattern.Place()
			out = append(out, api.Warn{Kind: api.Shut, From: at.From, To: at.To})
		}
	}
	found, open := a.search(rows, 1)
	if open != slices.ContainsFunc(values, func(v form) bool { return !anyLets(patterns, v) }) {
		t.Errorf("the arbiter is at odds with itself over %+v", m)
	}
	if open {
		a.checkWitness(t, patterns, found[0])
		out = append(out, api.Warn{Kind: api.Open, From: m.From, To: m.To, Witness: found[0].written()})
	}
	return out
}

// checkWitness asks that no value of a witness is let by, but that it has some.
func (a *arbiter) checkWitness(t *testing.T, patterns []form, witness form) {
	t.Helper()
	some := false
	for _, v := range a.all(append(slices.Clone(patterns), witness)) {
		some = some || lets(witness, v)
		if lets(witness, v) && anyLets(patterns, v) {
			t.Errorf("%q lets %v by, and so does an arm of %v", witness.written(), v, patterns)
		}
	}
	if !some {
		t.Errorf("%q lets nothing by", witness.written())
	}
}

// toldOfAll is what P12 asks for, of a source that has types.
func toldOfAll(t *testing.T, source string) []api.Warn {
	t.Helper()
	program, f := reader.Program(source)
	if f.Kind != api.OK {
		t.Fatalf("%q can't be read: %v", source, f)
	}
	a := newArbiter(program)
	var out []api.Warn
	visit(reflect.ValueOf(program), nil, func(part any, _ reflect.Type) {
		if m, ok := part.(tree.Match); ok {
			out = append(out, a.told(t, m)...)
		}
	})
	slices.SortFunc(out, func(a, b api.Warn) int {
		return cmp.Or(cmp.Compare(a.From, b.From), cmp.Compare(b.To, a.To))
	})
	return out
}

// planter makes matches whose patterns have types.
type planter struct {
	breeder
	names int
}

const plantTypes = "type L 'a=N|C 'a(L 'a);type S=P|Q Int Bool|R;type V=V V;type M 'a=X|Y 'a 'a|Z;"

// subject is the type of what is matched.
func (p *planter) subject(depth int) string {
	if depth == 0 {
		return p.pick([]string{"Int", "Int", "Bool", "Bool", "S", "S", "Unit", "V"})
	}
	switch p.rng.Intn(4) {
	case 0:
		return "L " + "(" + p.subject(depth-1) + ")"
	case 1:
		return "M " + "(" + p.subject(depth-1) + ")"
	}
	return "(" + p.subject(depth-1) + "," + p.subject(depth-1) + ")"
}

// low is a name that no other has in its source.
func (p *planter) low() string {
	p.names++
	return "a" + strconv.Itoa(p.names)
}

// pattern is one of a type, now and then in parentheses.
func (p *planter) pattern(of *term, depth int) string {
	text := p.bare(of, depth)
	if strings.Contains(text, " ") || p.rng.Intn(12) == 0 {
		text = "(" + text + ")"
	}
	return text
}

func (p *planter) bare(of *term, depth int) string {
	if choice := p.rng.Intn(4 * (depth + 1)); choice < 2 || depth == 0 {
		return "_"
	} else if choice == 2 {
		return p.low()
	}
	inner := func(i int) string { return p.pattern(of.parts[i], depth-1) }
	switch of.head {
	case "Int":
		return p.pick([]string{"0", "1", "2", "00", "3"})
	case "Bool":
		return p.pick([]string{"true", "false"})
	case "Unit":
		return "()"
	case ",":
		return "(" + inner(0) + "," + inner(1) + ")"
	case "V":
		return "V " + p.pattern(of, depth-1)
	case "S":
		if p.rng.Intn(2) == 0 {
			return p.pick([]string{"P", "R"})
		}
		return "Q " + p.pattern(name("Int"), depth-1) + " " + p.pattern(name("Bool"), depth-1)
	case "L":
		if p.rng.Intn(3) == 0 {
			return "N"
		}
		return "C " + inner(0) + " " + p.pattern(of, depth-1)
	case "M":
		if p.rng.Intn(2) == 0 {
			return p.pick([]string{"X", "Z"})
		}
		return "Y " + inner(0) + " " + inner(0)
	}
	panic("no such type")
}

// cover is patterns of a type that let all its values by between them.
func (p *planter) cover(of *term, depth int) []string {
	if depth == 0 || p.rng.Intn(6) == 0 {
		return []string{"_"}
	}
	inner := func(i int) []string { return p.cover(of.parts[i], depth-1) }
	switch of.head {
	case "Int":
		return []string{"0", "1", "_"}[p.rng.Intn(3):]
	case "Bool":
		return []string{"true", "false"}
	case "Unit":
		return []string{"()"}
	case ",":
		return crossed("(", inner(0), ",", inner(1), ")")
	case "V":
		return crossed("V(", p.cover(of, depth-1), ")", []string{""}, "")
	case "S":
		return append(crossed("Q ", p.cover(name("Int"), depth-1), " ", p.cover(name("Bool"), depth-1), ""), "P", "R")
	case "L":
		return append(crossed("C(", inner(0), ")(", p.cover(of, depth-1), ")"), "N")
	case "M":
		return append(crossed("Y(", inner(0), ")(", inner(0), ")"), "X", "Z")
	}
	panic("no such type")
}

// crossed is each of some texts with each of others.
func crossed(head string, some []string, between string, others []string, tail string) []string {
	var out []string
	for _, a := range some {
		for _, b := range others {
			out = append(out, head+a+between+b+tail)
		}
	}
	return out
}

// patterns are those of a match's arms: of any kind, or all but a few of those that let all by, in any order.
func (p *planter) patterns(of *term) []string {
	var list []string
	more := 1 + p.rng.Intn(5)
	if p.rng.Intn(3) > 0 {
		more = p.rng.Intn(2)
		list = p.cover(of, 1+p.rng.Intn(3))
		p.rng.Shuffle(len(list), func(i, j int) { list[i], list[j] = list[j], list[i] })
		list = list[:max(1, len(list)-p.rng.Intn(3))]
	}
	for range more {
		list = slices.Insert(list, p.rng.Intn(len(list)+1), p.pattern(of, 2+p.rng.Intn(3)))
	}
	return list
}

// match is one on x or y, with others inside.
func (p *planter) match(subjects map[string]*term, depth int) string {
	x := p.pick([]string{"x", "y"})
	text, of := "match "+x+" with ", subjects[x]
	if depth > 0 && p.rng.Intn(8) == 0 {
		text, of = "match "+p.match(subjects, 0)+" with ", name("Int")
	}
	for i, pattern := range p.patterns(of) {
		if i > 0 {
			text += "|"
		}
		text += pattern + "->" + p.number(subjects, depth)
	}
	return text + " end"
}

// number is an expression, which has a match inside if there is to be more depth.
func (p *planter) number(subjects map[string]*term, depth int) string {
	if depth == 0 || p.rng.Intn(3) > 0 {
		return "1"
	}
	form := p.pick([]string{"%", "(%)", "1+(%)", "let u=% in u", "if true then % else 2", "(fun u->%)1", "(%:Int)"})
	return strings.ReplaceAll(form, "%", p.match(subjects, depth-1))
}

// planted is a source of matches that is not too long.
func (p *planter) planted() string {
	for {
		p.names = 0
		subjects := map[string]*term{"x": readTerm(p.subject(p.rng.Intn(3))), "y": readTerm(p.subject(p.rng.Intn(3)))}
		source := plantTypes + "let f=fun x->fun y->" + p.match(subjects, p.rng.Intn(3)) + ";"
		if len(source) <= api.MaxSource {
			return source
		}
	}
}
