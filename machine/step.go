package machine

import (
	"retrace/api"
	"retrace/parse"
)

// Step makes a step, if the end is Running.
func (m *Machine) Step() {
	if m.end != api.Running {
		return
	}
	form := m.program.Line(m.line).Form
	next, end := m.perform(form)
	if end != api.Running {
		m.end = end
		return
	}
	m.line = m.program.GoOn(next)
}

// perform does what the present line says, and tells the line from which it
// goes on. If it meets an end it tells that, and has changed nothing: whatever
// can trap comes ahead of what is changed.
func (m *Machine) perform(form parse.Form) (int, int) {
	switch form.Kind {
	case parse.SetName:
		return m.setName(form)
	case parse.SetCell:
		return m.setCell(form)
	case parse.Print:
		return m.print(form)
	case parse.Read:
		return m.read(form)
	case parse.If, parse.While:
		return m.branch(form)
	case parse.Call:
		return m.call(form)
	}
	// No other stop is left but a return and the end of a procedure.
	return m.leave()
}

func (m *Machine) setName(form parse.Form) (int, int) {
	value, trap := m.value(form)
	if trap != api.Running {
		return 0, trap
	}
	target := m.variable(form.Name)
	m.put(target, value)
	return m.line + 1, api.Running
}

func (m *Machine) setCell(form parse.Form) (int, int) {
	number, trap := m.evaluate(form.Index)
	if trap != api.Running {
		return 0, trap
	}
	value, trap := m.value(form)
	if trap != api.Running {
		return 0, trap
	}
	target, ok := m.cell(form.Name, number)
	if !ok {
		return 0, api.BadIndex
	}
	m.put(target, value)
	return m.line + 1, api.Running
}

func (m *Machine) print(form parse.Form) (int, int) {
	value, trap := m.value(form)
	if trap != api.Running {
		return 0, trap
	}
	if len(m.output) >= api.MaxOutput {
		return 0, api.Full
	}
	m.output = append(m.output, value)
	return m.line + 1, api.Running
}

func (m *Machine) read(form parse.Form) (int, int) {
	if m.taken < 0 || m.taken >= len(m.input) {
		return 0, api.NoInput
	}
	target := m.variable(form.Name)
	m.put(target, m.input[m.taken])
	m.taken++
	return m.line + 1, api.Running
}

func (m *Machine) branch(form parse.Form) (int, int) {
	value, trap := m.value(form)
	if trap != api.Running {
		return 0, trap
	}
	if value != 0 {
		return m.line + 1, api.Running
	}
	return m.program.Otherwise(m.line), api.Running
}

func (m *Machine) call(form parse.Form) (int, int) {
	var params []int
	for i := 0; i < len(form.Values); i++ {
		value, trap := m.evaluate(form.Values[i])
		if trap != api.Running {
			return 0, trap
		}
		params = append(params, value)
	}
	if len(m.frames) >= api.MaxDepth {
		return 0, api.TooDeep
	}
	m.frames = append(m.frames, frame{params: params, call: m.line})
	proc := m.program.Declaration(form.Name)
	return proc + 1, api.Running
}

// leave drops the present frame, if it is not the first.
func (m *Machine) leave() (int, int) {
	last := len(m.frames) - 1
	if last < 1 {
		return 0, api.Halted
	}
	back := m.frames[last].call + 1
	m.frames = m.frames[:last]
	return back, api.Running
}
