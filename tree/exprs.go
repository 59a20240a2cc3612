package tree

// Expr is an expression.
type Expr interface {
	Place() Span
	isExpr()
}

// Low is a low name: in an expression a use of it, in a pattern what is named there.
type Low struct {
	Span
	Name string
}

// Up is an up name in an expression.
type Up struct {
	Span
	Name string
}

// Number is a number, in an expression or a pattern.
type Number struct {
	Span
	Value int
}

// Bool is `true` or `false`, in an expression or a pattern.
type Bool struct {
	Span
	Value bool
}

// Unit is `()`, in an expression or a pattern.
type Unit struct {
	Span
}

// Pair is `(Left, Right)`.
type Pair struct {
	Span
	Left, Right Expr
}

// Typed is `(Body : Type)`.
type Typed struct {
	Span
	Body Expr
	Type Type
}

// Fun is `fun Param -> Body`.
type Fun struct {
	Span
	Param Name
	Body  Expr
}

// Let is `let Name = Value in Body` or `let rec Name = Value in Body`.
type Let struct {
	Span
	Binding
	Body Expr
}

// If is `if Test then Yes else No`.
type If struct {
	Span
	Test, Yes, No Expr
}

// Match is `match Subject with Arms end`.
type Match struct {
	Span
	Subject Expr
	Arms    []Arm
}

// Arm is `Pattern -> Body`.
type Arm struct {
	Span
	Pattern Pattern
	Body    Expr
}

// Binary is an operator between two expressions; Op is its sign.
type Binary struct {
	Span
	Op          string
	Left, Right Expr
}

// Call is `Fun Arg`.
type Call struct {
	Span
	Fun, Arg Expr
}

func (Low) isExpr()    {}
func (Up) isExpr()     {}
func (Number) isExpr() {}
func (Bool) isExpr()   {}
func (Unit) isExpr()   {}
func (Pair) isExpr()   {}
func (Typed) isExpr()  {}
func (Fun) isExpr()    {}
func (Let) isExpr()    {}
func (If) isExpr()     {}
func (Match) isExpr()  {}
func (Binary) isExpr() {}
func (Call) isExpr()   {}
