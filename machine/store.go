package machine

import "retrace/parse"

// spot is where a value is kept: a cell of what a line declares, a variable
// having one cell; or, with the line 0, a parameter of the present frame.
type spot struct {
	line int
	cell int
}

// declare makes room for what each line declares, all of it 0.
func (m *Machine) declare() {
	for n := 0; n < len(m.program.Lines); n++ {
		cells := zeros(m.program.Lines[n].Form)
		m.values = append(m.values, cells)
	}
}

// zeros gives the cells of what a line declares, if it declares a variable or
// an array.
func zeros(form parse.Form) []int {
	count := form.Cells
	if form.Kind == parse.Var {
		count = 1
	}
	var cells []int
	for i := 0; i < count; i++ {
		cells = append(cells, 0)
	}
	return cells
}

// proc tells the line where the present frame's procedure begins.
func (m *Machine) proc() int {
	return m.program.Line(m.line).Proc
}

// variable finds the variable or parameter that a name means in the present
// frame's procedure.
func (m *Machine) variable(name string) spot {
	proc := m.proc()
	param := m.program.Param(proc, name)
	if param >= 0 {
		return spot{cell: param}
	}
	line := m.program.Declaration(name)
	return spot{line: line}
}

// cell finds a cell of an array; it answers false, if the array has none of
// that number.
func (m *Machine) cell(name string, number int) (spot, bool) {
	line := m.program.Declaration(name)
	s := spot{line: line, cell: number}
	if !m.has(s) {
		return spot{}, false
	}
	return s, true
}

func (m *Machine) has(s spot) bool {
	cells := m.cells(s.line)
	return s.cell >= 0 && s.cell < len(cells)
}

// cells gives the cells that the spots of a line are, not a copy of them.
func (m *Machine) cells(line int) []int {
	if line > 0 && line < len(m.values) {
		return m.values[line]
	}
	if line == 0 && len(m.frames) > 0 {
		return m.frames[len(m.frames)-1].params
	}
	return nil
}

func (m *Machine) get(s spot) int {
	cells := m.cells(s.line)
	if s.cell < 0 || s.cell >= len(cells) {
		return 0
	}
	return cells[s.cell]
}

func (m *Machine) put(s spot, value int) {
	cells := m.cells(s.line)
	if s.cell < 0 || s.cell >= len(cells) {
		return
	}
	cells[s.cell] = value
}

// store puts a value, and gives the record by which that is undone.
func (m *Machine) store(s spot, value int) Record {
	old := m.get(s)
	m.put(s, value)
	return Record{kind: stored, at: s, value: old}
}
