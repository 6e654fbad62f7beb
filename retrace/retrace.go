// Package retrace: programs of a small language, run forward and backward: see DOC.md.
package retrace

import (
	"retrace/api"
	"retrace/machine"
	"retrace/program"
)

// Session is a run that can be moved through.
type Session struct{}

// Tidy gives a source with its lines set in and its tokens apart (P4).
func Tidy(source string) (string, api.Errno, int) {
	p, errno, at := program.Read(source)
	if errno != api.OK {
		return "", errno, at
	}
	return p.Tidy(), api.OK, 0
}

// Stops tells the lines at which a run can stand (P5).
func Stops(source string) ([]int, api.Errno, int) {
	p, errno, at := program.Read(source)
	if errno != api.OK {
		return nil, errno, at
	}
	return p.Stops(), api.OK, 0
}

// Run runs a source from its first place on (P6).
func Run(source string, input []int, fuel int) (api.Result, api.Errno, int) {
	m, errno, at := machine.New(source, input)
	if errno != api.OK {
		return api.Result{}, errno, at
	}
	if fuel < 0 || fuel > api.MaxFuel {
		return api.Result{}, api.ErrFuel, 0
	}
	steps := 0
	for steps < fuel && m.End() == api.Running {
		m.Step()
		steps++
	}
	output := m.Output()
	return api.Result{End: m.End(), Steps: steps, Output: output}, api.OK, 0
}

// New begins a session (P7).
func New(source string, input []int, capacity int) (*Session, api.Errno, int) {
	_, errno, at := machine.New(source, input)
	return nil, errno, at
}

// Where tells the place (P8).
func (s *Session) Where() api.Reply { return api.Reply{} }

// Mark marks a line, or takes its mark away (P9).
func (s *Session) Mark(line int) (bool, api.Errno) { return false, api.OK }

// Forward makes steps (P10).
func (s *Session) Forward(kind int, fuel int) (api.Reply, api.Errno) { return api.Reply{}, api.OK }

// Backward takes steps back (P13).
func (s *Session) Backward(kind int, fuel int) (api.Reply, api.Errno) { return api.Reply{}, api.OK }

// Value tells a variable or a parameter (P11).
func (s *Session) Value(name string) (int, api.Errno) { return 0, api.OK }

// Cell tells a cell of an array (P11).
func (s *Session) Cell(name string, i int) (int, api.Errno) { return 0, api.OK }

// Calls tells the lines of the calls that are open (P11).
func (s *Session) Calls() []int { return nil }

// Output tells what has been printed (P11).
func (s *Session) Output() []int { return nil }

// Held tells how far back the journal reaches, and how many records it holds (P12).
func (s *Session) Held() (int, int) { return 0, 0 }
