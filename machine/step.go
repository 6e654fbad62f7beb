package machine

import (
	"retrace/api"
	"retrace/parse"
)

// outcome is what the present line comes to: an end, or else the line from
// which it goes on and the records of the step.
type outcome struct {
	end     int
	next    int
	records []Record
}

// Step makes a step, if the end is Running; it tells the step's records.
func (m *Machine) Step() []Record {
	if m.end != api.Running {
		return nil
	}
	form := m.program.Line(m.line).Form
	o := m.perform(form)
	if o.end != api.Running {
		m.end = o.end
		return []Record{{kind: stayed, line: m.line}}
	}
	m.line = m.program.GoOn(o.next)
	return o.records
}

// perform does what the present line says. If it meets an end it has changed
// nothing: whatever can trap comes ahead of what is changed.
func (m *Machine) perform(form parse.Form) outcome {
	switch form.Kind {
	case parse.SetName:
		return m.setName(form)
	case parse.SetCell:
		return m.setCell(form)
	case parse.Print:
		return m.print(form)
	case parse.Read:
		return m.read(form)
	case parse.If, parse.While:
		return m.branch(form)
	case parse.Call:
		return m.call(form)
	}
	// No other stop is left but a return and the end of a procedure.
	return m.leave()
}

func (m *Machine) setName(form parse.Form) outcome {
	value, trap := m.value(form)
	if trap != api.Running {
		return outcome{end: trap}
	}
	target := m.variable(form.Name)
	old := m.store(target, value)
	records := []Record{{kind: stayed, line: m.line}, old}
	return outcome{next: m.line + 1, records: records}
}

func (m *Machine) setCell(form parse.Form) outcome {
	number, trap := m.evaluate(form.Index)
	if trap != api.Running {
		return outcome{end: trap}
	}
	value, trap := m.value(form)
	if trap != api.Running {
		return outcome{end: trap}
	}
	target, ok := m.cell(form.Name, number)
	if !ok {
		return outcome{end: api.BadIndex}
	}
	old := m.store(target, value)
	records := []Record{{kind: stayed, line: m.line}, old}
	return outcome{next: m.line + 1, records: records}
}

func (m *Machine) print(form parse.Form) outcome {
	value, trap := m.value(form)
	if trap != api.Running {
		return outcome{end: trap}
	}
	if len(m.output) >= api.MaxOutput {
		return outcome{end: api.Full}
	}
	m.output = append(m.output, value)
	records := []Record{{kind: stayed, line: m.line}, {kind: printed}}
	return outcome{next: m.line + 1, records: records}
}

func (m *Machine) read(form parse.Form) outcome {
	if m.taken < 0 || m.taken >= len(m.input) {
		return outcome{end: api.NoInput}
	}
	target := m.variable(form.Name)
	old := m.store(target, m.input[m.taken])
	m.taken++
	records := []Record{{kind: stayed, line: m.line}, old, {kind: fetched}}
	return outcome{next: m.line + 1, records: records}
}

func (m *Machine) branch(form parse.Form) outcome {
	value, trap := m.value(form)
	if trap != api.Running {
		return outcome{end: trap}
	}
	next := m.line + 1
	if value == 0 {
		next = m.program.Otherwise(m.line)
	}
	records := []Record{{kind: stayed, line: m.line}}
	return outcome{next: next, records: records}
}

func (m *Machine) call(form parse.Form) outcome {
	var params []int
	for i := 0; i < len(form.Values); i++ {
		value, trap := m.evaluate(form.Values[i])
		if trap != api.Running {
			return outcome{end: trap}
		}
		params = append(params, value)
	}
	if len(m.frames) >= api.MaxDepth {
		return outcome{end: api.TooDeep}
	}
	m.frames = append(m.frames, frame{params: params, call: m.line})
	proc := m.program.Declaration(form.Name)
	records := []Record{{kind: entered, line: m.line}}
	return outcome{next: proc + 1, records: records}
}

// leave drops the present frame, if it is not the first.
func (m *Machine) leave() outcome {
	last := len(m.frames) - 1
	if last < 1 {
		return outcome{end: api.Halted}
	}
	gone := m.frames[last]
	records := []Record{{kind: dropped, line: m.line, value: gone.call}}
	for i := 0; i < len(gone.params); i++ {
		records = append(records, Record{kind: passed, value: gone.params[i]})
	}
	m.dropFrame()
	return outcome{next: gone.call + 1, records: records}
}
