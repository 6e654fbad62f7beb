package machine

import "retrace/api"

// What a Record tells. The first record of a step is one of the first three:
// it takes the place back to the step's line, and to its frames.
const (
	stayed  = 1 // the frames are as they were
	entered = 2 // a frame was added
	dropped = 3 // the present frame was dropped
	stored  = 4 // a value was put where another one was
	printed = 5 // a number was printed
	fetched = 6 // a number of the input was read
	passed  = 7 // a parameter went with the frame that was dropped
)

// Record is a piece of what a step did, with what it takes to undo it.
type Record struct {
	kind  int
	line  int  // of the first one: where the step was made
	at    spot // of what was stored: where
	value int  // what was lost by it: the old value, the parameter's, or the line of the dropped frame's call
}

// Begins tells whether this is the first record of a step.
func (r Record) Begins() bool {
	switch r.kind {
	case stayed, entered, dropped:
		return true
	}
	return false
}

// Undo takes back the step that was made last, to the place from which it was
// made; the records are those that Step told of it.
func (m *Machine) Undo(records []Record) {
	for i := 0; i < len(records); i++ {
		m.undo(records[i])
	}
}

func (m *Machine) undo(r Record) {
	if r.Begins() {
		m.line = r.line
		// No step is made where the end is another one.
		m.end = api.Running
	}
	switch r.kind {
	case entered:
		m.dropFrame()
	case dropped:
		m.frames = append(m.frames, frame{call: r.value})
	case stored:
		m.put(r.at, r.value)
	case printed:
		m.dropPrinted()
	case fetched:
		m.taken--
	case passed:
		m.addParam(r.value)
	}
}

func (m *Machine) dropFrame() {
	if len(m.frames) > 0 {
		m.frames = m.frames[:len(m.frames)-1]
	}
}

func (m *Machine) dropPrinted() {
	if len(m.output) > 0 {
		m.output = m.output[:len(m.output)-1]
	}
}

// addParam gives the present frame one more parameter, behind those that it
// has.
func (m *Machine) addParam(value int) {
	last := len(m.frames) - 1
	if last < 0 {
		return
	}
	m.frames[last].params = append(m.frames[last].params, value)
}
