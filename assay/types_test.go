package assay_test

import (
	"math/rand"
	"slices"
	"strconv"
	"strings"
	"testing"

	"assay/api"
	"assay/assay"
)

// term is a type as these tests see it, read and written without the program's own packages. A variable's head is its token; those of pairs and functions are "," and "->".
type term struct {
	head  string
	parts []*term
}

func (t *term) isVariable() bool { return t.head[0] == '\'' }

// readTerm reads a text that has no fault.
func readTerm(text string) *term {
	tokens := append(tokensOf(text), "")
	at := 0
	next := func() string {
		at++
		return tokens[at-1]
	}
	var arrow, small func() *term
	small = func() *term {
		head := next()
		if head != "(" {
			return &term{head: head}
		}
		inner := arrow()
		if next() == "," {
			inner = &term{",", []*term{inner, arrow()}}
			next()
		}
		return inner
	}
	arrow = func() *term {
		left := small()
		if tokens[at-1] != ")" && !left.isVariable() {
			for k := tokens[at]; k != "" && !slices.Contains([]string{"->", ")", ","}, k); k = tokens[at] {
				left.parts = append(left.parts, small())
			}
		}
		if tokens[at] != "->" {
			return left
		}
		next()
		return &term{"->", []*term{left, arrow()}}
	}
	return arrow()
}

func (t *term) size() int {
	size := 1
	for _, part := range t.parts {
		size += part.size()
	}
	return size
}

// written writes by the document's words; numbers grows with the variables that come.
func (t *term) written(numbers map[string]int) string {
	inner := func(t *term, heads string) string {
		text := t.written(numbers)
		if t.head == "->" || heads == "named" && t.head != "," && len(t.parts) > 0 {
			return "(" + text + ")"
		}
		return text
	}
	switch {
	case t.isVariable():
		if _, met := numbers[t.head]; !met {
			numbers[t.head] = len(numbers)
		}
		return "'v" + strconv.Itoa(numbers[t.head])
	case t.head == ",":
		left := t.parts[0].written(numbers)
		return "(" + left + ", " + t.parts[1].written(numbers) + ")"
	case t.head == "->":
		left := inner(t.parts[0], "")
		return left + " -> " + t.parts[1].written(numbers)
	}
	text := t.head
	for _, part := range t.parts {
		text += " " + inner(part, "named")
	}
	return text
}

// put is a term with what is known put for its variables.
func (t *term) put(known map[string]*term) *term {
	if t.isVariable() {
		if known[t.head] == nil {
			return t
		}
		return known[t.head].put(known)
	}
	out := &term{head: t.head}
	for _, part := range t.parts {
		out.parts = append(out.parts, part.put(known))
	}
	return out
}

func (t *term) has(variable string) bool {
	return t.head == variable || slices.ContainsFunc(t.parts, func(part *term) bool { return part.has(variable) })
}

// equal finds by the schoolbook what must be known for two terms to be one.
func equal(a, b *term, known map[string]*term) bool {
	a, b = a.put(known), b.put(known)
	switch {
	case a.head == b.head && len(a.parts) == len(b.parts):
		for i := range a.parts {
			if !equal(a.parts[i], b.parts[i], known) {
				return false
			}
		}
		return true
	case a.isVariable() && !b.has(a.head):
		known[a.head] = b
		return true
	case b.isVariable() && !a.has(b.head):
		known[b.head] = a
		return true
	}
	return false
}

func names(n int) string { return "T" + strings.Repeat(" A", n-1) }

func pairs(n int) string {
	if n == 0 {
		return "'a"
	}
	return "('a, " + pairs(n-1) + ")"
}

func TestCanon(t *testing.T) {
	for _, c := range []struct{ text, want string }{
		{"Int", "Int"},
		{"\n Int\n ", "Int"},
		{"'a", "'v0"},
		{"'v7", "'v0"},
		{"(('v1,'v0))", "('v0, 'v1)"},
		{"'a->('b->'a)", "'v0 -> 'v1 -> 'v0"},
		{"('a->'b)->'a", "('v0 -> 'v1) -> 'v0"},
		{"(('a->'b)->'c)->'d", "(('v0 -> 'v1) -> 'v2) -> 'v3"},
		{"'z->'y->'x->'z", "'v0 -> 'v1 -> 'v2 -> 'v0"},
		{"('b,('a,'b))->('c,'a)", "('v0, ('v1, 'v0)) -> ('v2, 'v1)"},
		{"('a->'b,'c->'d)", "('v0 -> 'v1, 'v2 -> 'v3)"},
		{"(List(Int),(List Int)->Int)", "(List Int, List Int -> Int)"},
		{"List('a)", "List 'v0"},
		{"List(List(List 'a))", "List (List (List 'v0))"},
		{"M(L 'b)('a->'b)('a,'b)(N)", "M (L 'v0) ('v1 -> 'v0) ('v1, 'v0) N"},
		{"(L Int)->(L Int)", "L Int -> L Int"},
		{"M Int->Bool", "M Int -> Bool"},
		{"M(Int->Bool)", "M (Int -> Bool)"},
		{"Int 'a Bool", "Int 'v0 Bool"},
		{"Unit(Unit)(Unit Unit)", "Unit Unit (Unit Unit)"},
		{"'aB9->'aB->'aB9", "'v0 -> 'v1 -> 'v0"},
		{"T 'a 'b 'c 'd 'e 'f 'g 'h 'i 'j 'k", "T 'v0 'v1 'v2 'v3 'v4 'v5 'v6 'v7 'v8 'v9 'v10"},
	} {
		if got, f := assay.Canon(c.text); got != c.want || f != (api.Fault{}) {
			t.Errorf("P5: Canon(%q) = %q, %v, want %q", c.text, got, f, c.want)
		}
	}
}

var typeFaults = []struct {
	text string
	want api.Fault
}{
	{"", fault(api.ErrSyntax, 0, 0)},
	{" \n", fault(api.ErrSyntax, 2, 2)},
	{"int", fault(api.ErrSyntax, 0, 3)},
	{"type", fault(api.ErrSyntax, 0, 4)},
	{"()", fault(api.ErrSyntax, 1, 2)},
	{"(Int", fault(api.ErrSyntax, 4, 4)},
	{"Int)", fault(api.ErrSyntax, 3, 4)},
	{"Int;", fault(api.ErrSyntax, 3, 4)},
	{"Int->", fault(api.ErrSyntax, 5, 5)},
	{"->Int", fault(api.ErrSyntax, 0, 2)},
	{"'a 'b", fault(api.ErrSyntax, 3, 5)},
	{"(L) 'a", fault(api.ErrSyntax, 4, 6)},
	{"(A,B,C)", fault(api.ErrSyntax, 4, 5)},
	{"L 1", fault(api.ErrSyntax, 2, 3)},
	{"L '", fault(api.ErrLex, 2, 3)},
	{"L 'in", fault(api.ErrLex, 2, 5)},
	{"L #", fault(api.ErrLex, 2, 3)},
	{"L 1234567890", fault(api.ErrLex, 2, 12)},
	{strings.Repeat(" ", api.MaxSource) + "A", fault(api.ErrLong, 0, 0)},
	{strings.Repeat("A", api.MaxSource+1), fault(api.ErrLong, 0, 0)},
	{names(api.MaxSize + 1), fault(api.ErrSize, 0, 97)},
	{" " + names(api.MaxSize+1) + "\n ", fault(api.ErrSize, 0, 100)},
	{"(((" + names(api.MaxSize+1) + ")))", fault(api.ErrSize, 0, 103)},
	{names(100) + ")", fault(api.ErrSyntax, 199, 200)},
	{names(300), fault(api.ErrLong, 0, 0)},
	{pairs(api.MaxSize / 2), fault(api.ErrSize, 0, len(pairs(api.MaxSize/2)))},
	{"A->" + pairs(api.MaxSize/2-1), fault(api.ErrSize, 0, 3+len(pairs(api.MaxSize/2-1)))},
	{"L " + strings.Repeat("(L ", 46) + "'a 'b" + strings.Repeat(")", 46), fault(api.ErrSize, 0, 191)},
}

func TestFaultsOfCanon(t *testing.T) {
	for _, c := range typeFaults {
		if got, f := assay.Canon(c.text); got != "" || f != c.want {
			t.Errorf("P5: Canon(%.60q) = %q, %v, want %v", c.text, got, f, c.want)
		}
	}
}

func TestLargestTypes(t *testing.T) {
	for _, text := range []string{
		names(api.MaxSize),
		"L (" + pairs(api.MaxSize/2-1) + ")",
		"L " + strings.Repeat("(L ", 45) + "'a 'b" + strings.Repeat(")", 45),
		strings.Repeat("A->", api.MaxSize/2-1) + "L A",
		strings.Repeat("A", api.MaxSource),
		strings.Repeat("(", 199) + "'a" + strings.Repeat(")", 199),
		strings.Repeat(" ", api.MaxSource-2) + "'a",
	} {
		want := readTerm(text).written(map[string]int{})
		if got, f := assay.Canon(text); got != want || f != (api.Fault{}) {
			t.Errorf("P5: Canon(%.60q) = %q, %v, want %q", text, got, f, want)
		}
		if got, ok, f := assay.Unify(text, "'x"); got != want || !ok || f != (api.Fault{}) {
			t.Errorf("P6: Unify(%.60q, 'x) = %q, %v, %v, want %q", text, got, ok, f, want)
		}
	}
}

// typeFault is what P5 says of a text.
func typeFault(g grammar, text string) api.Fault {
	f := expectedFault(g, "type", text)
	if f.Kind == api.OK && readTerm(text).size() > api.MaxSize {
		return fault(api.ErrSize, 0, len(text))
	}
	return f
}

func TestGrownCanons(t *testing.T) {
	g := readGrammar()
	w := &grower{g: g, rng: rand.New(rand.NewSource(5))}
	kinds := map[api.Errno]int{}
	for i := range 6000 {
		w.room = w.rng.Intn(60)
		tokens := w.grow("type")
		if i%3 == 0 {
			tokens = w.spoil(tokens)
		}
		text := w.join(tokens)
		want := ""
		wantFault := typeFault(g, text)
		if wantFault.Kind == api.OK {
			want = readTerm(text).written(map[string]int{})
		}
		got, f := assay.Canon(text)
		if got != want || f != wantFault {
			t.Fatalf("P5: Canon(%q) = %q, %v, want %q, %v", text, got, f, want, wantFault)
		}
		kinds[f.Kind]++
		if again, f := assay.Canon(got); got != "" && (again != got || f.Kind != api.OK && f.Kind != api.ErrLong) {
			t.Errorf("P5: Canon(%q) = %q, %v", got, again, f)
		}
	}
	for _, kind := range []api.Errno{api.OK, api.ErrLex, api.ErrSyntax, api.ErrSize} {
		if kinds[kind] < 20 {
			t.Errorf("of kind %v there were only %d", kind, kinds[kind])
		}
	}
}

func TestUnify(t *testing.T) {
	for _, c := range []struct {
		a, b, want string
		ok         bool
	}{
		{"'a -> Int", "List 'b -> 'c", "List 'v0 -> Int", true},
		{"'a", "'a -> Int", "", false},
		{"Int", "Int", "Int", true},
		{"Int", "Bool", "", false},
		{"Int", "Int Int", "", false},
		{"L 'a", "L 'a 'a", "", false},
		{"L 'a 'b", "M 'a 'b", "", false},
		{"'a", "'a", "'v0", true},
		{"'a", "'b", "'v0", true},
		{"'v1->'v0", "'x", "'v0 -> 'v1", true},
		{"'a", "('a)", "'v0", true},
		{"'a", "L 'a", "", false},
		{"L 'a", "'a", "", false},
		{"L 'a", "'b", "L 'v0", true},
		{"('a,Int)", "(Int,'a)", "(Int, Int)", true},
		{"('a,Int)", "(Bool,'a)", "", false},
		{"('a,'b)", "('b,'a)", "('v0, 'v0)", true},
		{"('a,'b)", "('b,L 'a)", "", false},
		{"('a,'b)", "(L 'b,M 'a)", "", false},
		{"('a,'b)->'c", "'c->'d", "('v0, 'v1) -> ('v0, 'v1)", true},
		{"('a,'b)->'c", "'d->'e", "('v0, 'v1) -> 'v2", true},
		{"('a,'b)->'c", "'c->'c", "('v0, 'v1) -> ('v0, 'v1)", true},
		{"('a,'b)", "'a->'b", "", false},
		{"('a,'b)", "P 'a 'b", "", false},
		{"'a->'b", "P 'a 'b", "", false},
		{"'a->'b->'c", "'x->'y", "'v0 -> 'v1 -> 'v2", true},
		{"('a->'b)->'c", "'x->'y", "('v0 -> 'v1) -> 'v2", true},
		{"'a->'b->'c", "('x->'y)->'z", "('v0 -> 'v1) -> 'v2 -> 'v3", true},
		{"T 'a 'b 'c", "T 'b 'c Int", "T Int Int Int", true},
		{"T 'a 'b 'c", "T 'b 'c 'a", "T 'v0 'v0 'v0", true},
		{"T 'a 'b 'c", "T 'b 'c (L 'a)", "", false},
		{"T 'a 'a 'a", "T (L 'x) (L 'y) (L Int)", "T (L Int) (L Int) (L Int)", true},
		{"T 'a 'a", "T (L 'x) (L (M 'x))", "", false},
		{"T 'a 'b 'a", "T (L 'b) (L 'a) Int", "", false},
		{"T 'a 'b 'a", "T (L 'a) (L 'b) 'b", "", false},
		{"T 'a 'b 'a", "T ('b->'a) ('a->'b) 'b", "", false},
		{"T 'a 'b", "T (L 'b) 'c", "T (L 'v0) 'v0", true},
	} {
		for _, way := range [][2]string{{c.a, c.b}, {c.b, c.a}} {
			if got, ok, f := assay.Unify(way[0], way[1]); got != c.want || ok != c.ok || f != (api.Fault{}) {
				t.Errorf("P6: Unify(%q, %q) = %q, %v, %v, want %q, %v", way[0], way[1], got, ok, f, c.want, c.ok)
			}
		}
	}
}

func TestFaultsOfUnify(t *testing.T) {
	tell := func(a, b string, want api.Fault) {
		t.Helper()
		if got, ok, f := assay.Unify(a, b); got != "" || ok || f != want {
			t.Errorf("P6: Unify(%.60q, %.60q) = %q, %v, %v, want %v", a, b, got, ok, f, want)
		}
	}
	for _, c := range typeFaults {
		tell(c.text, "'a", c.want)
		tell("'a", c.text, c.want)
		tell("Int -> Bool", c.text, c.want)
		for _, other := range typeFaults {
			tell(c.text, other.text, c.want)
		}
	}
}

// doubling is two types T .. that make each of the variables 'x0 to 'xn a pair of the one behind it twice, by turns of the first type's and of the second's.
func doubling(x string, n int) (string, string) {
	sides := [2]string{"T", "T"}
	for i := range n {
		next := "'" + x + strconv.Itoa(i+1)
		sides[i%2] += " '" + x + strconv.Itoa(i)
		sides[1-i%2] += " (" + next + "," + next + ")"
	}
	return sides[0], sides[1]
}

func TestLargestUnified(t *testing.T) {
	for _, c := range []struct {
		a, b string
		size int
	}{
		{"(" + pairs(11) + ",'x)", "('y," + pairs(11) + ")", 47},
		{"L (" + pairs(11) + ",'x)", "L ('y," + pairs(11) + ")", 48},
		{"L A (" + pairs(11) + ",'x)", "L 'z ('y," + pairs(11) + ")", 49},
		{"('a,'a)", "(" + names(23) + ",'b)", 47},
		{"('a,'a)", "(" + names(24) + ",'b)", 49},
		{"L ('a,'a)", "L (" + names(23) + ",'b)", 48},
		{"'a->" + names(23), "L " + names(23) + "->'b", 48},
		{"'a->" + names(23), "L A " + names(23) + "->'b", 49},
		{"'a", names(48), 48},
	} {
		want, wantOK, wantFault := "", false, fault(api.ErrSize, 0, 0)
		known := map[string]*term{}
		if !equal(readTerm(c.a), readTerm(c.b), known) {
			t.Fatalf("%q and %q are not one", c.a, c.b)
		}
		one := readTerm(c.a).put(known)
		if one.size() != c.size {
			t.Errorf("%q, %q: size %d, not %d", c.a, c.b, one.size(), c.size)
		}
		if c.size <= api.MaxSize {
			want, wantOK, wantFault = one.written(map[string]int{}), true, api.Fault{}
		}
		for _, way := range [][2]string{{c.a, c.b}, {c.b, c.a}} {
			if got, ok, f := assay.Unify(way[0], way[1]); got != want || ok != wantOK || f != wantFault {
				t.Errorf("P6: Unify(%q, %q) = %q, %v, %v, want %q, %v, %v", way[0], way[1], got, ok, f, want, wantOK, wantFault)
			}
		}
	}
}

// What comes of these has millions of parts, which must not be gone through one by one.
func TestUnifyOfWhatDoubles(t *testing.T) {
	for range 200 {
		a, b := doubling("x", 22)
		for _, c := range []struct {
			a, b string
			want api.Fault
		}{
			{a, b, fault(api.ErrSize, 0, 0)},
			{a + " 'x22 'x22", b + " Int Int", fault(api.ErrSize, 0, 0)},
			{a + " 'x22 'x22", b + " Int Bool", api.Fault{}},
			{a + " 'x22", b + " (L 'x0)", api.Fault{}},
		} {
			if got, ok, f := assay.Unify(c.a, c.b); got != "" || ok || f != c.want {
				t.Fatalf("P6: Unify(%q, %q) = %q, %v, %v, want %v", c.a, c.b, got, ok, f, c.want)
			}
		}
	}
}

func TestUnifyOfTwoThatDouble(t *testing.T) {
	a, b := doubling("x", 10)
	c, d := doubling("y", 10)
	a, b = a+strings.TrimPrefix(c, "T"), b+strings.TrimPrefix(d, "T")
	for _, e := range []struct {
		a, b string
		want api.Fault
	}{
		{a + " 'x0", b + " 'y0", fault(api.ErrSize, 0, 0)},
		{a + " 'x0 'x10 Int", b + " 'y0 Int 'y10", fault(api.ErrSize, 0, 0)},
		{a + " 'x0 'x10 Int", b + " 'y0 Bool 'y10", api.Fault{}},
	} {
		if got, ok, f := assay.Unify(e.a, e.b); got != "" || ok || f != e.want {
			t.Errorf("P6: Unify(%q, %q) = %q, %v, %v, want %v", e.a, e.b, got, ok, f, e.want)
		}
	}
}

// sprout is a type made at random; arities are mostly kept to, so that many pairs of them become one.
func sprout(rng *rand.Rand, depth int) *term {
	choice := 2 + rng.Intn(8)
	if depth == 0 {
		choice = rng.Intn(5)
	}
	parts := func(n int) []*term {
		var out []*term
		for range n {
			out = append(out, sprout(rng, depth-1))
		}
		return out
	}
	switch {
	case choice < 4:
		return &term{head: "'" + string(rune('a'+rng.Intn(5)))}
	case choice == 4:
		return &term{head: []string{"Int", "Bool"}[rng.Intn(2)]}
	case choice == 5:
		return &term{"L", parts(1 + rng.Intn(20)/19)}
	case choice == 6:
		return &term{"T", parts(2)}
	case choice == 7:
		return &term{",", parts(2)}
	}
	return &term{"->", parts(2)}
}

// sproutTwo is two types: of any kind, or two that differ by what is put for some variables, or two that put much for each other's variables.
func sproutTwo(rng *rand.Rand) (*term, *term) {
	depth := 1 + rng.Intn(6)
	a, b := sprout(rng, depth), sprout(rng, depth)
	switch rng.Intn(3) {
	case 0:
		put := sprout(rng, 2).put(map[string]*term{"'a": {head: "Int"}, "'b": {head: "'c"}})
		b = a.put(map[string]*term{"'a": {head: "'e"}, "'b": put})
	case 1:
		c, d := sprout(rng, depth), sprout(rng, depth)
		a = &term{",", []*term{{"T", []*term{a, {head: "'x"}}}, {"T", []*term{{head: "'y"}, b}}}}
		b = &term{",", []*term{{"T", []*term{{head: "'z"}, c}}, {"T", []*term{d, {head: "'w"}}}}}
	}
	return a, b
}

// source is a text of which the term is read.
func (t *term) source() string {
	if len(t.parts) == 0 {
		return t.head
	}
	if t.head == "," || t.head == "->" {
		return "(" + t.parts[0].source() + t.head + t.parts[1].source() + ")"
	}
	text := "(" + t.head
	for _, part := range t.parts {
		text += " " + part.source()
	}
	return text + ")"
}

func TestGrownUnify(t *testing.T) {
	rng := rand.New(rand.NewSource(6))
	met := map[string]int{}
	for range 20000 {
		a, b := sproutTwo(rng)
		if len(a.source()) > api.MaxSource || len(b.source()) > api.MaxSource || a.size() > api.MaxSize || b.size() > api.MaxSize {
			continue
		}
		known := map[string]*term{}
		want, wantOK, wantFault := "", false, api.Fault{}
		told := "none"
		if equal(a, b, known) {
			one := a.put(known)
			want, wantOK, told = one.written(map[string]int{}), true, "one"
			if one.size() > api.MaxSize {
				want, wantOK, wantFault, told = "", false, fault(api.ErrSize, 0, 0), "large"
			}
		}
		met[told]++
		if got, ok, f := assay.Unify(a.source(), b.source()); got != want || ok != wantOK || f != wantFault {
			t.Fatalf("P6: Unify(%q, %q) = %q, %v, %v, want %q, %v, %v", a.source(), b.source(), got, ok, f, want, wantOK, wantFault)
		}
	}
	if met["none"] < 1000 || met["one"] < 1000 || met["large"] < 100 {
		t.Errorf("too few of a kind: %v", met)
	}
}
