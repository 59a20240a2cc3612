package assay_test

import (
	"slices"
	"strconv"
	"testing"

	"assay/api"
	"assay/reader"
	"assay/tree"
)

// judge finds types as P9 to P11 say it, word by word, by terms of these tests' own: what is known is one growing table, and what is any is found by looking through all names.
type judge struct {
	known  map[string]*term
	count  int
	makers map[string]named // each of a type t1 -> .. -> T 'a ..
	names  []named          // the innermost last
}

type named struct {
	name string
	of   *term
	any  []string
}

// verdict is what the judge panics with.
type verdict struct {
	fault       api.Fault
	left, right string
}

// judged is what Infer must answer to a source whose names are right.
func judged(t *testing.T, source string) api.Report {
	t.Helper()
	program, f := reader.Program(source)
	if f.Kind != api.OK {
		t.Fatalf("%q can't be read: %v", source, f)
	}
	j := &judge{known: map[string]*term{}, makers: map[string]named{}}
	var report api.Report
	for _, decl := range program.Decls {
		switch d := decl.(type) {
		case tree.TypeDecl:
			j.declare(d)
		case tree.LetDecl:
			found, v := j.declared(d)
			if v.fault.Kind != api.OK {
				report.Fault, report.Left, report.Right = v.fault, v.left, v.right
				return report
			}
			report.Binds = append(report.Binds, api.Bind{Name: d.Name.Text, Type: found.written(map[string]int{})})
		}
	}
	return report
}

func name(head string, parts ...*term) *term { return &term{head: head, parts: parts} }

func arrow(from, to *term) *term { return name("->", from, to) }

func (j *judge) fresh() *term {
	j.count++
	return name("'" + strconv.Itoa(j.count))
}

// termOf is a type of a source as a term.
func termOf(t tree.Type) *term {
	switch t := t.(type) {
	case tree.TypeVar:
		return name("'" + t.Name)
	case tree.Named:
		out := name(t.Name.Text)
		for _, arg := range t.Args {
			out.parts = append(out.parts, termOf(arg))
		}
		return out
	case tree.TypePair:
		return name(",", termOf(t.Left), termOf(t.Right))
	case tree.Arrow:
		return arrow(termOf(t.Left), termOf(t.Right))
	}
	panic("no type")
}

func (j *judge) declare(d tree.TypeDecl) {
	whole := name(d.Name.Text)
	var any []string
	for _, p := range d.Params {
		any = append(any, "'"+p.Text)
		whole.parts = append(whole.parts, name("'"+p.Text))
	}
	for _, m := range d.Makers {
		t := whole
		for _, part := range slices.Backward(m.Types) {
			t = arrow(termOf(part), t)
		}
		j.makers[m.Name.Text] = named{m.Name.Text, t, any}
	}
}

func (j *judge) declared(d tree.LetDecl) (found *term, v verdict) {
	defer func() {
		if r := recover(); r != nil {
			v = r.(verdict)
		}
	}()
	t := j.value(d.Binding)
	if j.over(t) {
		j.stop(api.ErrSize, d.Name.Span)
	}
	if !isValue(d.Value) {
		for _, v := range j.variables(t) {
			j.known[v] = name("Unit")
		}
	}
	t = t.put(j.known)
	j.names = append(j.names, named{d.Name.Text, t, j.variables(t)})
	return t, verdict{}
}

// isValue is P10.
func isValue(e tree.Expr) bool {
	switch e := e.(type) {
	case tree.Low, tree.Up, tree.Number, tree.Bool, tree.Unit, tree.Fun:
		return true
	case tree.Pair:
		return isValue(e.Left) && isValue(e.Right)
	case tree.Typed:
		return isValue(e.Body)
	case tree.Call:
		if _, up := e.Fun.(tree.Up); up {
			return isValue(e.Arg)
		}
		_, call := e.Fun.(tree.Call)
		return call && isValue(e.Fun) && isValue(e.Arg)
	}
	return false
}

func (j *judge) stop(kind api.Errno, at tree.Span) {
	panic(verdict{fault: fault(kind, at.From, at.To)})
}

// over tells whether a term is larger than MaxSize; it counts no further than that.
func (j *judge) over(t *term) bool {
	left := api.MaxSize
	var count func(t *term)
	count = func(t *term) {
		for j.known[t.head] != nil {
			t = j.known[t.head]
		}
		if left--; left < 0 {
			return
		}
		for _, part := range t.parts {
			count(part)
		}
	}
	count(t)
	return left < 0
}

// variables are those of a term, with all that is known.
func (j *judge) variables(t *term) []string {
	var out []string
	met := map[string]bool{}
	var walk func(t *term)
	walk = func(t *term) {
		if t.isVariable() {
			if met[t.head] {
				return
			}
			met[t.head] = true
			if j.known[t.head] == nil {
				out = append(out, t.head)
			} else {
				walk(j.known[t.head])
			}
		}
		for _, part := range t.parts {
			walk(part)
		}
	}
	walk(t)
	return out
}

func (j *judge) equal(a, b *term, at tree.Span) {
	if j.over(a) || j.over(b) {
		j.stop(api.ErrSize, at)
	}
	a, b = a.put(j.known), b.put(j.known)
	if !equal(a, b, j.known) {
		numbers := map[string]int{}
		left := a.written(numbers)
		panic(verdict{fault(api.ErrType, at.From, at.To), left, b.written(numbers)})
	}
}

// anew is a term with new variables for some.
func (j *judge) anew(t *term, any []string) *term {
	put := map[string]*term{}
	for _, v := range any {
		put[v] = j.fresh()
	}
	return t.put(put)
}

func (j *judge) maker(name string) *term {
	return j.anew(j.makers[name].of, j.makers[name].any)
}

// within finds a type where more names are given.
func (j *judge) within(more []named, e tree.Expr) *term {
	count := len(j.names)
	j.names = append(j.names, more...)
	t := j.expr(e)
	j.names = j.names[:count]
	return t
}

// value is the type of what a name is let be.
func (j *judge) value(b tree.Binding) *term {
	if !b.Rec {
		return j.expr(b.Value)
	}
	a := j.fresh()
	t := j.within([]named{{name: b.Name.Text, of: a}}, b.Value)
	j.equal(a, t, b.Value.Place())
	return t
}

// loose are the variables of t that are any, if t is the type of such a value.
func (j *judge) loose(b tree.Binding, t *term) []string {
	if !isValue(b.Value) {
		return nil
	}
	var held []string
	var hidden []string
	if b.Rec {
		hidden = append(hidden, b.Name.Text)
	}
	for _, n := range slices.Backward(j.names) {
		if slices.Contains(hidden, n.name) {
			continue
		}
		hidden = append(hidden, n.name)
		for _, v := range j.variables(n.of) {
			if !slices.Contains(n.any, v) {
				held = append(held, v)
			}
		}
	}
	return slices.DeleteFunc(j.variables(t), func(v string) bool { return slices.Contains(held, v) })
}

func (j *judge) low(e tree.Low) *term {
	for _, n := range slices.Backward(j.names) {
		if n.name == e.Name {
			if j.over(n.of) {
				j.stop(api.ErrSize, e.Span)
			}
			return j.anew(n.of.put(j.known), n.any)
		}
	}
	panic("no such name")
}

func (j *judge) expr(e tree.Expr) *term {
	switch e := e.(type) {
	case tree.Low:
		return j.low(e)
	case tree.Up:
		return j.maker(e.Name)
	case tree.Number:
		return name("Int")
	case tree.Bool:
		return name("Bool")
	case tree.Unit:
		return name("Unit")
	case tree.Pair:
		left := j.expr(e.Left)
		return name(",", left, j.expr(e.Right))
	case tree.Fun:
		a := j.fresh()
		return arrow(a, j.within([]named{{name: e.Param.Text, of: a}}, e.Body))
	case tree.Call:
		t := j.expr(e.Fun)
		u := j.expr(e.Arg)
		a := j.fresh()
		j.equal(t, arrow(u, a), e.Span)
		return a
	case tree.Binary:
		t := j.expr(e.Left)
		j.equal(t, name("Int"), e.Left.Place())
		u := j.expr(e.Right)
		j.equal(u, name("Int"), e.Right.Place())
		if e.Op == "<" {
			return name("Bool")
		}
		return name("Int")
	case tree.If:
		t := j.expr(e.Test)
		j.equal(t, name("Bool"), e.Test.Place())
		u := j.expr(e.Yes)
		v := j.expr(e.No)
		j.equal(u, v, e.No.Place())
		return u
	case tree.Let:
		t := j.value(e.Binding)
		return j.within([]named{{e.Name.Text, t, j.loose(e.Binding, t)}}, e.Body)
	case tree.Match:
		t := j.expr(e.Subject)
		r := j.fresh()
		for _, arm := range e.Arms {
			var more []named
			p := j.pattern(arm.Pattern, &more)
			j.equal(t, p, arm.Pattern.Place())
			u := j.within(more, arm.Body)
			j.equal(r, u, arm.Body.Place())
		}
		return r
	case tree.Typed:
		u := j.expr(e.Body)
		t := termOf(e.Type)
		j.equal(u, t, e.Body.Place())
		return t
	}
	panic("no expression")
}

func (j *judge) pattern(p tree.Pattern, more *[]named) *term {
	switch p := p.(type) {
	case tree.Any:
		return j.fresh()
	case tree.Low:
		a := j.fresh()
		*more = append(*more, named{name: p.Name, of: a})
		return a
	case tree.Number:
		return name("Int")
	case tree.Bool:
		return name("Bool")
	case tree.Unit:
		return name("Unit")
	case tree.PatternPair:
		left := j.pattern(p.Left, more)
		return name(",", left, j.pattern(p.Right, more))
	case tree.Made:
		t := j.maker(p.Name.Text)
		for _, arg := range p.Args {
			q := j.pattern(arg, more)
			j.equal(q, t.parts[0], arg.Place())
			t = t.parts[1]
		}
		return t
	}
	panic("no pattern")
}
