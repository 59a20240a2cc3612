package assay_test

import (
	"math/rand"
	"regexp"
	"slices"
	"strings"

	"assay/api"
)

// The document's grammar, word by word: the tests below read it, make programs by it, and tell by it where a text goes wrong, all without the program's own reader.
const documentGrammar = `
program = { declaration }
declaration = "type" up { variable } "=" maker { "|" maker } ";"
            | "let" low "=" expr ";"
            | "let" "rec" low "=" function ";"
maker    = up { small }
type     = big [ "->" type ]
big      = up { small } | small
small    = variable | up | "(" type ")" | "(" type "," type ")"
expr     = function | "let" low "=" expr "in" expr | "let" "rec" low "=" function "in" expr
         | "if" expr "then" expr "else" expr | "match" expr "with" arm { "|" arm } "end"
         | sum [ "<" sum ]
function = "fun" low "->" expr
sum      = product { ( "+" | "-" ) product }
product  = call { "*" call }
call     = atom { atom }
atom     = low | up | number | "true" | "false" | "(" ")"
         | "(" expr ")" | "(" expr "," expr ")" | "(" expr ":" type ")"
arm      = pattern "->" expr
pattern  = up { plain } | plain
plain    = "_" | low | up | number | "true" | "false" | "(" ")"
         | "(" pattern ")" | "(" pattern "," pattern ")"
`

// grammar: of each name the ways to write it. What stands in braces, brackets or parentheses gets a name of its own; a name without ways is a token, and so is all that has its quotes (so the word "type" is not the name type).
type grammar map[string][][]string

func readGrammar() grammar {
	g := grammar{}
	words := regexp.MustCompile(`"[^"]*"|[a-z]+|[{}\[\]()|=]`).FindAllString(documentGrammar, -1)
	at := 0
	var ways func() [][]string
	ways = func() [][]string {
		out := [][]string{{}}
		add := func(s string) { out[len(out)-1] = append(out[len(out)-1], s) }
		for at < len(words) {
			word := words[at]
			if at+1 < len(words) && words[at+1] == "=" || strings.Contains("}])", word) {
				return out
			}
			at++
			name := "#" + string(rune(at))
			switch word {
			case "|":
				out = append(out, []string{})
			case "{":
				inner := ways()
				at++
				g[name] = [][]string{{}}
				for _, way := range inner {
					g[name] = append(g[name], append(way, name))
				}
				add(name)
			case "[":
				g[name] = append(ways(), []string{})
				at++
				add(name)
			case "(":
				g[name] = ways()
				at++
				add(name)
			default:
				add(word)
			}
		}
		return out
	}
	for at < len(words) {
		name := words[at]
		at += 2
		g[name] = ways()
	}
	return g
}

// state is a way of a name, how much of it is read, and at which token it began.
type state struct {
	name       string
	way, dot   int
	began, len int
}

// finder follows all ways to read a row of tokens at once, so that it knows which token may stand next.
type finder struct {
	g    grammar
	sets []map[state]int
}

func newFinder(g grammar, start string) *finder {
	f := &finder{g: g}
	f.sets = []map[state]int{{}}
	f.fill([]state{{name: "start", len: 1}}, start)
	return f
}

func (f *finder) symbol(s state, start string) string {
	if s.dot == s.len {
		return ""
	}
	if s.name == "start" {
		return start
	}
	return f.g[s.name][s.way][s.dot]
}

func (f *finder) fill(work []state, start string) {
	here := len(f.sets) - 1
	set := f.sets[here]
	for len(work) > 0 {
		s := work[0]
		work = work[1:]
		if _, known := set[s]; known {
			continue
		}
		set[s] = 1
		next := f.symbol(s, start)
		if next == "" {
			for back := range f.sets[s.began] {
				if f.symbol(back, start) == s.name {
					back.dot++
					work = append(work, back)
				}
			}
			continue
		}
		for i, way := range f.g[next] {
			work = append(work, state{name: next, way: i, began: here, len: len(way)})
		}
		// A name that was read as nothing may have ended here before s asked for it.
		for done := range set {
			if done.name == next && done.dot == done.len && done.began == here {
				after := s
				after.dot++
				work = append(work, after)
			}
		}
	}
}

// follow takes a token; it answers whether the token may stand there.
func (f *finder) follow(token, start string) bool {
	var work []state
	for s := range f.sets[len(f.sets)-1] {
		if f.symbol(s, start) == token {
			s.dot++
			work = append(work, s)
		}
	}
	f.sets = append(f.sets, map[state]int{})
	f.fill(work, start)
	return len(work) > 0
}

func (f *finder) complete() bool {
	_, ok := f.sets[len(f.sets)-1][state{name: "start", dot: 1, len: 1}]
	return ok
}

var tokenForm = regexp.MustCompile(`^(?:'?[a-z][a-zA-Z0-9]*|[A-Z][a-zA-Z0-9]*|[0-9]+|->|[-(),;:=|+*<_])`)

var wordList = strings.Fields("type let rec in fun if then else match with end true false")

func kindOf(token string) string {
	switch {
	case token[0] == '\'':
		return "variable"
	case token[0] >= '0' && token[0] <= '9':
		return "number"
	case token[0] >= 'A' && token[0] <= 'Z':
		return "up"
	case token[0] >= 'a' && token[0] <= 'z' && !slices.Contains(wordList, token):
		return "low"
	}
	return `"` + token + `"`
}

// expectedFault is what P3 says of a text that should be what start names.
func expectedFault(g grammar, start, text string) api.Fault {
	if len(text) > api.MaxSource {
		return api.Fault{Kind: api.ErrLong}
	}
	f := newFinder(g, start)
	at := 0
	for {
		at += len(text[at:]) - len(strings.TrimLeft(text[at:], " \n"))
		if at == len(text) {
			break
		}
		token := tokenForm.FindString(text[at:])
		switch {
		case token == "":
			return api.Fault{Kind: api.ErrLex, From: at, To: at + 1}
		case kindOf(token) == "number" && len(token) > api.MaxDigits,
			kindOf(token) == "variable" && slices.Contains(wordList, token[1:]):
			return api.Fault{Kind: api.ErrLex, From: at, To: at + len(token)}
		case !f.follow(kindOf(token), start):
			return api.Fault{Kind: api.ErrSyntax, From: at, To: at + len(token)}
		}
		at += len(token)
	}
	if !f.complete() {
		return api.Fault{Kind: api.ErrSyntax, From: at, To: at}
	}
	return api.Fault{}
}

// grower makes texts by the grammar.
type grower struct {
	g    grammar
	rng  *rand.Rand
	room int // how many tokens may still come before the shortest ways are taken
}

func (w *grower) grow(name string) []string {
	ways, known := w.g[name]
	if !known {
		w.room--
		return []string{w.token(name)}
	}
	way := ways[w.rng.Intn(len(ways))]
	if w.room < 0 {
		way = w.shortest(name)
	}
	var out []string
	for _, s := range way {
		out = append(out, w.grow(s)...)
	}
	return out
}

// shortest is a way that leads to an end, since a choice at random need not.
func (w *grower) shortest(name string) []string {
	switch name {
	case "expr":
		return w.g[name][len(w.g[name])-1]
	case "big", "pattern":
		return w.g[name][1]
	}
	return slices.MinFunc(w.g[name], func(a, b []string) int { return len(a) - len(b) })
}

func (w *grower) token(kind string) string {
	pick := func(s string) string {
		list := strings.Fields(s)
		return list[w.rng.Intn(len(list))]
	}
	switch kind {
	case "low":
		return pick("a b c f x lets aB2 fun1")
	case "up":
		return pick("C D Nil T1 Fun")
	case "variable":
		return pick("'a 'b 'inX")
	case "number":
		return pick("0 7 007 000 10 999999999")
	}
	return strings.Trim(kind, `"`)
}

// join makes a text of tokens, with blanks at random, and where they must be.
func (w *grower) join(tokens []string) string {
	nameByte := regexp.MustCompile(`[a-zA-Z0-9]`)
	blanks := []string{"", "", " ", "\n", "  "}
	var out strings.Builder
	for i, token := range tokens {
		blank := blanks[w.rng.Intn(len(blanks))]
		if i > 0 && blank == "" && nameByte.MatchString(tokens[i-1]) && nameByte.MatchString(token[:1]) {
			blank = " "
		}
		out.WriteString(blank + token)
	}
	return out.String() + blanks[w.rng.Intn(len(blanks))]
}

// spoil changes some tokens.
func (w *grower) spoil(tokens []string) []string {
	strange := strings.Fields("type let rec in fun if then else match with end true false -> ( ) , ; : = | + - * < _ x C 'a 5 # ' 'in > 1234567890 \x80")
	out := slices.Clone(tokens)
	for range 1 + w.rng.Intn(2) {
		at := w.rng.Intn(len(out) + 1)
		switch w.rng.Intn(4) {
		case 0:
			out = slices.Insert(out, at, strange[w.rng.Intn(len(strange))])
		case 1:
			out = out[:at]
		case 2:
			if at < len(out) {
				out[at] = strange[w.rng.Intn(len(strange))]
			}
		case 3:
			if at < len(out) {
				out = slices.Delete(out, at, at+1)
			}
		}
	}
	return out
}
