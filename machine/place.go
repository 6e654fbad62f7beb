package machine

import "retrace/api"

// End tells the end of the place.
func (m *Machine) End() int {
	return m.end
}

// Line tells the line of the place.
func (m *Machine) Line() int {
	return m.line
}

// Depth tells how many frames there are.
func (m *Machine) Depth() int {
	return len(m.frames)
}

// IsStop tells whether the source has a stop at that line.
func (m *Machine) IsStop(line int) bool {
	return m.program.IsStop(line)
}

// Value tells the variable or parameter that a name means in the present
// frame's procedure.
func (m *Machine) Value(name string) (int, api.Errno) {
	proc := m.proc()
	if !m.program.IsVariable(proc, name) {
		return 0, api.ErrName
	}
	from := m.variable(name)
	return m.get(from), api.OK
}

// Cell tells a cell of the array that a name means in the present frame's
// procedure.
func (m *Machine) Cell(name string, number int) (int, api.Errno) {
	proc := m.proc()
	if !m.program.IsArray(proc, name) {
		return 0, api.ErrName
	}
	from, ok := m.cell(name, number)
	if !ok {
		return 0, api.ErrIndex
	}
	return m.get(from), api.OK
}

// Calls tells the lines of the calls of all frames but the first, in a list of
// its own.
func (m *Machine) Calls() []int {
	var calls []int
	for i := 1; i < len(m.frames); i++ {
		calls = append(calls, m.frames[i].call)
	}
	return calls
}

// Output tells all that has been printed, in a list of its own.
func (m *Machine) Output() []int {
	var output []int
	output = append(output, m.output...)
	return output
}
