// Package parse reads the tokens of one line: which of the lines that there
// are it is, and what stands in it.
package parse

import (
	"retrace/api"
	"retrace/scan"
)

// The kinds of lines.
const (
	Empty   = 0
	Var     = 1
	Array   = 2
	Proc    = 3
	End     = 4
	If      = 5
	Else    = 6
	While   = 7
	SetName = 8 // to a variable or a parameter
	SetCell = 9 // to a cell of an array
	Print   = 10
	Read    = 11
	Call    = 12
	Return  = 13
)

// Form is a line that has been read. A field that its kind has no use for is
// 0 or empty.
type Form struct {
	Kind   int
	Name   string   // what is declared, set, read or called
	Cells  int      // of an array
	Params []string // of a procedure
	Index  Expr     // the number of the cell that is set
	Values []Expr   // what is set, printed or asked, or what a call hands over
}

// Line reads a line; it answers false if it is none of those that there are.
func Line(tokens []scan.Token) (Form, bool) {
	if len(tokens) == 0 {
		return Form{Kind: Empty}, true
	}
	r := reader{tokens: tokens, at: 1}
	form, ok := r.line(tokens[0].Text)
	if !ok || r.more() {
		return Form{}, false
	}
	return form, true
}

// line reads what stands behind the first token.
func (r *reader) line(first string) (Form, bool) {
	switch first {
	case "var":
		return r.named(Var)
	case "array":
		return r.array()
	case "proc":
		return r.procedure()
	case "end":
		return Form{Kind: End}, true
	case "if":
		return r.valued(If)
	case "else":
		return Form{Kind: Else}, true
	case "while":
		return r.valued(While)
	case "set":
		return r.set()
	case "print":
		return r.valued(Print)
	case "read":
		return r.named(Read)
	case "call":
		return r.call()
	case "return":
		return Form{Kind: Return}, true
	}
	return Form{}, false
}

// named reads a line that has a name and nothing more.
func (r *reader) named(kind int) (Form, bool) {
	name, ok := r.name()
	if !ok {
		return Form{}, false
	}
	return Form{Kind: kind, Name: name}, true
}

// valued reads a line that has one expression and nothing more.
func (r *reader) valued(kind int) (Form, bool) {
	value, ok := r.expression()
	if !ok {
		return Form{}, false
	}
	return Form{Kind: kind, Values: []Expr{value}}, true
}

func (r *reader) array() (Form, bool) {
	name, ok := r.name()
	if !ok {
		return Form{}, false
	}
	cells, ok := r.number()
	if !ok || cells < 1 || cells > api.MaxCells {
		return Form{}, false
	}
	return Form{Kind: Array, Name: name, Cells: cells}, true
}

func (r *reader) procedure() (Form, bool) {
	name, ok := r.name()
	if !ok {
		return Form{}, false
	}
	form := Form{Kind: Proc, Name: name}
	for r.more() {
		param, fits := r.name()
		if !fits || len(form.Params) >= api.MaxParams {
			return Form{}, false
		}
		form.Params = append(form.Params, param)
	}
	return form, true
}

func (r *reader) set() (Form, bool) {
	name, ok := r.name()
	if !ok {
		return Form{}, false
	}
	form := Form{Kind: SetName, Name: name}
	if r.take("[") {
		index, fits := r.expression()
		if !fits || !r.take("]") {
			return Form{}, false
		}
		form.Kind = SetCell
		form.Index = index
	}
	if !r.take("to") {
		return Form{}, false
	}
	value, ok := r.expression()
	if !ok {
		return Form{}, false
	}
	form.Values = []Expr{value}
	return form, true
}

func (r *reader) call() (Form, bool) {
	name, ok := r.name()
	if !ok {
		return Form{}, false
	}
	form := Form{Kind: Call, Name: name}
	wanted := r.more()
	for wanted {
		value, fits := r.expression()
		if !fits {
			return Form{}, false
		}
		form.Values = append(form.Values, value)
		wanted = r.take(",")
	}
	return form, true
}
