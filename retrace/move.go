package retrace

import "retrace/api"

// move is a call of Forward or Backward, with what it has come to.
type move struct {
	kind, fuel int
	depth      int // ahead of the call
	moved      int
}

// Forward makes steps (P10).
func (s *Session) Forward(kind int, fuel int) (api.Reply, api.Errno) {
	errno := refuseMove(kind, fuel)
	if errno != api.OK {
		return api.Reply{}, errno
	}
	m := move{kind: kind, fuel: fuel, depth: s.machine.Depth()}
	reason := s.forwardEnds(m)
	// The fuel bounds this: each round uses up some.
	for reason == api.None {
		s.makeStep()
		m.moved++
		reason = s.forwardEnds(m)
	}
	return s.reply(m, reason), api.OK
}

// Backward takes steps back (P13).
func (s *Session) Backward(kind int, fuel int) (api.Reply, api.Errno) {
	errno := refuseMove(kind, fuel)
	if errno != api.OK {
		return api.Reply{}, errno
	}
	m := move{kind: kind, fuel: fuel, depth: s.machine.Depth()}
	reason := s.backwardEnds(m)
	// The fuel bounds this too.
	for reason == api.None {
		s.takeBack()
		m.moved++
		reason = s.backwardEnds(m)
	}
	return s.reply(m, reason), api.OK
}

func refuseMove(kind int, fuel int) api.Errno {
	if kind < api.Step || kind > api.Continue {
		return api.ErrKind
	}
	if fuel < 0 || fuel > api.MaxFuel {
		return api.ErrFuel
	}
	return api.OK
}

func (s *Session) makeStep() {
	records := s.machine.Step()
	s.journal.Join(records)
	s.index++
}

func (s *Session) takeBack() {
	records := s.journal.Withdraw()
	s.machine.Undo(records)
	s.index--
}

// reply tells the place, and how a move came to it.
func (s *Session) reply(m move, reason int) api.Reply {
	reply := s.Where()
	reply.Reason = reason
	reply.Moved = m.moved
	return reply
}

// forwardEnds tells why a move forward ends here; None, if it does not.
func (s *Session) forwardEnds(m move) int {
	if s.machine.End() != api.Running {
		return api.Ended
	}
	reason := s.arrived(m)
	if reason == api.None && m.moved >= m.fuel {
		return api.NoFuel
	}
	return reason
}

// backwardEnds tells why a move back ends here; None, if it does not.
func (s *Session) backwardEnds(m move) int {
	reason := s.arrived(m)
	if reason != api.None {
		return reason
	}
	if s.index == 0 {
		return api.Start
	}
	if s.index == s.journal.Low() {
		return api.Horizon
	}
	if m.moved >= m.fuel {
		return api.NoFuel
	}
	return api.None
}

// arrived tells whether a move has come to what it looks for, or to a mark;
// None, if to neither. Where it begins does not count.
func (s *Session) arrived(m move) int {
	if m.moved == 0 {
		return api.None
	}
	if s.reached(m) {
		return api.Reached
	}
	line := s.machine.Line()
	if line >= 0 && line < len(s.marks) && s.marks[line] {
		return api.AtMark
	}
	return api.None
}

func (s *Session) reached(m move) bool {
	depth := s.machine.Depth()
	switch m.kind {
	case api.Step:
		return true
	case api.Next:
		return depth <= m.depth
	case api.Finish:
		return depth < m.depth
	}
	return false
}
