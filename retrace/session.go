package retrace

import (
	"retrace/api"
	"retrace/machine"
)

// Session is a run that can be moved through.
type Session struct {
	machine machine.Machine
	index   int
	marks   [api.MaxLines + 1]bool // marks[n]: line n is marked
}

// move is a call of Forward, with what it has come to.
type move struct {
	kind, fuel int
	depth      int // ahead of the call
	moved      int
}

// New begins a session (P7).
func New(source string, input []int, capacity int) (*Session, api.Errno, int) {
	m, errno, at := machine.New(source, input)
	if errno != api.OK {
		return nil, errno, at
	}
	if capacity < api.MinCap || capacity > api.MaxCap {
		return nil, api.ErrCap, 0
	}
	return &Session{machine: m}, api.OK, 0
}

// Where tells the place (P8).
func (s *Session) Where() api.Reply {
	return api.Reply{
		End:   s.machine.End(),
		Line:  s.machine.Line(),
		Depth: s.machine.Depth(),
		Index: s.index,
	}
}

// Mark marks a line, or takes its mark away (P9).
func (s *Session) Mark(line int) (bool, api.Errno) {
	if line < 0 || line >= len(s.marks) || !s.machine.IsStop(line) {
		return false, api.ErrStop
	}
	s.marks[line] = !s.marks[line]
	return s.marks[line], api.OK
}

// Forward makes steps (P10).
func (s *Session) Forward(kind int, fuel int) (api.Reply, api.Errno) {
	errno := refuseMove(kind, fuel)
	if errno != api.OK {
		return api.Reply{}, errno
	}
	m := move{kind: kind, fuel: fuel, depth: s.machine.Depth()}
	reason := s.forwardEnds(m)
	// The fuel bounds this: each round uses up some.
	for reason == api.None {
		s.machine.Step()
		s.index++
		m.moved++
		reason = s.forwardEnds(m)
	}
	reply := s.Where()
	reply.Reason = reason
	reply.Moved = m.moved
	return reply, api.OK
}

func refuseMove(kind int, fuel int) api.Errno {
	if kind < api.Step || kind > api.Continue {
		return api.ErrKind
	}
	if fuel < 0 || fuel > api.MaxFuel {
		return api.ErrFuel
	}
	return api.OK
}

// forwardEnds tells why a move forward ends here; None, if it does not.
func (s *Session) forwardEnds(m move) int {
	if s.machine.End() != api.Running {
		return api.Ended
	}
	reason := s.arrived(m)
	if reason == api.None && m.moved >= m.fuel {
		return api.NoFuel
	}
	return reason
}

// arrived tells whether a move has come to what it looks for, or to a mark;
// None, if to neither. Where it begins does not count.
func (s *Session) arrived(m move) int {
	if m.moved == 0 {
		return api.None
	}
	if s.reached(m) {
		return api.Reached
	}
	line := s.machine.Line()
	if line >= 0 && line < len(s.marks) && s.marks[line] {
		return api.AtMark
	}
	return api.None
}

func (s *Session) reached(m move) bool {
	depth := s.machine.Depth()
	switch m.kind {
	case api.Step:
		return true
	case api.Next:
		return depth <= m.depth
	case api.Finish:
		return depth < m.depth
	}
	return false
}

// Backward takes steps back (P13).
func (s *Session) Backward(kind int, fuel int) (api.Reply, api.Errno) { return api.Reply{}, api.OK }

// Value tells a variable or a parameter (P11).
func (s *Session) Value(name string) (int, api.Errno) {
	return s.machine.Value(name)
}

// Cell tells a cell of an array (P11).
func (s *Session) Cell(name string, i int) (int, api.Errno) {
	return s.machine.Cell(name, i)
}

// Calls tells the lines of the calls that are open (P11).
func (s *Session) Calls() []int {
	return s.machine.Calls()
}

// Output tells what has been printed (P11).
func (s *Session) Output() []int {
	return s.machine.Output()
}

// Held tells how far back the journal reaches, and how many records it holds (P12).
func (s *Session) Held() (int, int) { return 0, 0 }
