package tree

// Pattern is a pattern: Any, Low, Number, Bool, Unit, Made or PatternPair.
type Pattern interface {
	Place() Span
	isPattern()
}

// Any is `_`.
type Any struct {
	Span
}

// Made is a maker's name and the patterns behind it.
type Made struct {
	Span
	Name Name
	Args []Pattern
}

// PatternPair is `(Left, Right)`.
type PatternPair struct {
	Span
	Left, Right Pattern
}

func (Any) isPattern()         {}
func (Low) isPattern()         {}
func (Number) isPattern()      {}
func (Bool) isPattern()        {}
func (Unit) isPattern()        {}
func (Made) isPattern()        {}
func (PatternPair) isPattern() {}
