package retrace

import (
	"retrace/api"
	"retrace/journal"
	"retrace/machine"
)

// Session is a run that can be moved through.
type Session struct {
	machine machine.Machine
	journal journal.Journal
	index   int
	marks   [api.MaxLines + 1]bool // marks[n]: line n is marked
}

// New begins a session (P7).
func New(source string, input []int, capacity int) (*Session, api.Errno, int) {
	m, errno, at := machine.New(source, input)
	if errno != api.OK {
		return nil, errno, at
	}
	if capacity < api.MinCap || capacity > api.MaxCap {
		return nil, api.ErrCap, 0
	}
	j := journal.New(capacity)
	return &Session{machine: m, journal: j}, api.OK, 0
}

// Where tells the place (P8).
func (s *Session) Where() api.Reply {
	return api.Reply{
		End:   s.machine.End(),
		Line:  s.machine.Line(),
		Depth: s.machine.Depth(),
		Index: s.index,
	}
}

// Mark marks a line, or takes its mark away (P9).
func (s *Session) Mark(line int) (bool, api.Errno) {
	if line < 0 || line >= len(s.marks) || !s.machine.IsStop(line) {
		return false, api.ErrStop
	}
	s.marks[line] = !s.marks[line]
	return s.marks[line], api.OK
}

// Value tells a variable or a parameter (P11).
func (s *Session) Value(name string) (int, api.Errno) {
	return s.machine.Value(name)
}

// Cell tells a cell of an array (P11).
func (s *Session) Cell(name string, i int) (int, api.Errno) {
	return s.machine.Cell(name, i)
}

// Calls tells the lines of the calls that are open (P11).
func (s *Session) Calls() []int {
	return s.machine.Calls()
}

// Output tells what has been printed (P11).
func (s *Session) Output() []int {
	return s.machine.Output()
}

// Held tells how far back the journal reaches, and how many records it holds (P12).
func (s *Session) Held() (int, int) {
	low := s.journal.Low()
	count := s.journal.Count()
	return low, count
}
