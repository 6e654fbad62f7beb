package program

import (
	"retrace/api"
	"retrace/parse"
)

// mainName is the name of the procedure that a run begins with.
const mainName = "main"

// checkNames looks at the names of each line.
func (p *Program) checkNames() (api.Errno, int) {
	for n := 1; n < len(p.Lines); n++ {
		if !p.namesFit(n, p.Lines[n]) {
			return api.ErrName, n
		}
	}
	if p.declared(mainName).Kind != parse.Proc {
		return api.ErrName, 0
	}
	return api.OK, 0
}

// namesFit tells whether all names of line n may stand there.
func (p *Program) namesFit(n int, line Line) bool {
	name := line.Form.Name
	switch line.Form.Kind {
	case parse.Var, parse.Array:
		return p.Declaration(name) == n
	case parse.Proc:
		return p.Declaration(name) == n && paramsFit(line.Form)
	case parse.SetName, parse.Read:
		if !p.IsVariable(line.Proc, name) {
			return false
		}
	case parse.SetCell:
		if !p.IsArray(line.Proc, name) {
			return false
		}
	case parse.Call:
		if !p.callFits(line.Form) {
			return false
		}
	}
	return p.expressionsFit(line)
}

// paramsFit tells whether a procedure may have its parameters.
func paramsFit(proc parse.Form) bool {
	if proc.Name == mainName && len(proc.Params) > 0 {
		return false
	}
	for i := 0; i < len(proc.Params); i++ {
		for j := 0; j < i; j++ {
			if proc.Params[i] == proc.Params[j] {
				return false
			}
		}
	}
	return true
}

// callFits tells whether there is such a procedure, with so many parameters.
// What a parameter is named does not matter here: it hides no procedure.
func (p *Program) callFits(call parse.Form) bool {
	proc := p.declared(call.Name)
	return proc.Kind == parse.Proc && len(proc.Params) == len(call.Values)
}

// expressionsFit tells whether the names in all expressions of a line may
// stand there.
func (p *Program) expressionsFit(line Line) bool {
	if !p.expressionFits(line.Proc, line.Form.Index) {
		return false
	}
	for i := 0; i < len(line.Form.Values); i++ {
		if !p.expressionFits(line.Proc, line.Form.Values[i]) {
			return false
		}
	}
	return true
}

func (p *Program) expressionFits(proc int, expr parse.Expr) bool {
	for i := 0; i < len(expr.Ops); i++ {
		op := expr.Ops[i]
		if op.Code == parse.Load && !p.IsVariable(proc, op.Name) {
			return false
		}
		if op.Code == parse.LoadCell && !p.IsArray(proc, op.Name) {
			return false
		}
	}
	return true
}

// IsVariable tells whether a name is a variable or a parameter in the
// procedure that begins at the line proc.
func (p *Program) IsVariable(proc int, name string) bool {
	if p.Param(proc, name) >= 0 {
		return true
	}
	return p.declared(name).Kind == parse.Var
}

// IsArray tells whether a name is an array in the procedure that begins at
// the line proc.
func (p *Program) IsArray(proc int, name string) bool {
	if p.Param(proc, name) >= 0 {
		return false
	}
	return p.declared(name).Kind == parse.Array
}

// Param tells which parameter a name is of the procedure that begins at the
// line proc, counted from 0 on; -1, if it is none.
func (p *Program) Param(proc int, name string) int {
	params := p.Line(proc).Form.Params
	for i := 0; i < len(params); i++ {
		if params[i] == name {
			return i
		}
	}
	return -1
}

// declared gives the line that declares a name, whatever it declares by it;
// an empty one, if none does.
func (p *Program) declared(name string) parse.Form {
	n := p.Declaration(name)
	return p.Line(n).Form
}

// Declaration tells the first line that declares a name, or 0.
func (p *Program) Declaration(name string) int {
	for n := 1; n < len(p.Lines); n++ {
		switch p.Lines[n].Form.Kind {
		case parse.Var, parse.Array, parse.Proc:
			if p.Lines[n].Form.Name == name {
				return n
			}
		}
	}
	return 0
}
