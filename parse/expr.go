package parse

// What an Op does. Each takes what it works on from a stack of values, and
// lays its own value there.
const (
	Constant  = 1 // a number
	Load      = 2 // the value of a variable or a parameter
	LoadCell  = 3 // the value of a cell of an array: takes the cell's number
	Negate    = 4
	Add       = 5
	Subtract  = 6
	Multiply  = 7
	Divide    = 8
	Remainder = 9
	Less      = 10
	Equal     = 11
)

// Op is one piece of work of an expression.
type Op struct {
	Code   int
	Number int    // of a Constant
	Name   string // of a Load or LoadCell
}

// Expr is an expression as the pieces of its work, in the order in which they
// are done: from the left to the right, each as soon as what it works on is
// known.
type Expr struct {
	Ops []Op
}

// expression reads a whole expression.
func (r *reader) expression() (Expr, bool) {
	if !r.comparison() {
		return Expr{}, false
	}
	ops := r.ops
	r.ops = nil
	return Expr{Ops: ops}, true
}

// comparison reads an EXPR: it may lie within another one, and its work comes
// in behind what has been read of that.
func (r *reader) comparison() bool {
	if !r.sum() {
		return false
	}
	code := r.operator(Less, Equal)
	if code == 0 {
		return true
	}
	if !r.sum() {
		return false
	}
	r.emit(Op{Code: code})
	return true
}

func (r *reader) sum() bool {
	if !r.term() {
		return false
	}
	for r.more() {
		code := r.operator(Add, Subtract)
		if code == 0 {
			return true
		}
		if !r.term() {
			return false
		}
		r.emit(Op{Code: code})
	}
	return true
}

func (r *reader) term() bool {
	if !r.factor() {
		return false
	}
	for r.more() {
		code := r.operator(Multiply, Remainder)
		if code == 0 {
			return true
		}
		if !r.factor() {
			return false
		}
		r.emit(Op{Code: code})
	}
	return true
}

// factor goes behind a token ahead of each expression within it, so that the
// tokens bound how deep expressions lie in one another.
func (r *reader) factor() bool {
	if r.take("-") {
		if !r.factor() {
			return false
		}
		r.emit(Op{Code: Negate})
		return true
	}
	if r.take("(") {
		if !r.comparison() {
			return false
		}
		return r.take(")")
	}
	number, ok := r.number()
	if ok {
		r.emit(Op{Code: Constant, Number: number})
		return true
	}
	return r.variable()
}

// variable reads a name, or a cell of an array.
func (r *reader) variable() bool {
	name, ok := r.name()
	if !ok {
		return false
	}
	if !r.take("[") {
		r.emit(Op{Code: Load, Name: name})
		return true
	}
	if !r.comparison() {
		return false
	}
	r.emit(Op{Code: LoadCell, Name: name})
	return r.take("]")
}

func (r *reader) emit(op Op) {
	r.ops = append(r.ops, op)
}

// operator goes behind the next token and tells its code, if that is one from
// low to high; else it stays, and answers 0.
func (r *reader) operator(low int, high int) int {
	if r.at >= len(r.tokens) {
		return 0
	}
	code := operatorCode(r.tokens[r.at].Text)
	if code < low || code > high {
		return 0
	}
	r.at++
	return code
}

// operatorCode tells what a sign between two values does; 0 for other tokens.
func operatorCode(text string) int {
	switch text {
	case "+":
		return Add
	case "-":
		return Subtract
	case "*":
		return Multiply
	case "/":
		return Divide
	case "%":
		return Remainder
	case "<":
		return Less
	case "=":
		return Equal
	}
	return 0
}
