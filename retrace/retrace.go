// Package retrace: programs of a small language, run forward and backward: see DOC.md.
package retrace

import (
	"retrace/api"
	"retrace/machine"
	"retrace/program"
)

// Tidy gives a source with its lines set in and its tokens apart (P4).
func Tidy(source string) (string, api.Errno, int) {
	p, errno, at := program.Read(source)
	if errno != api.OK {
		return "", errno, at
	}
	return p.Tidy(), api.OK, 0
}

// Stops tells the lines at which a run can stand (P5).
func Stops(source string) ([]int, api.Errno, int) {
	p, errno, at := program.Read(source)
	if errno != api.OK {
		return nil, errno, at
	}
	return p.Stops(), api.OK, 0
}

// Run runs a source from its first place on (P6).
func Run(source string, input []int, fuel int) (api.Result, api.Errno, int) {
	m, errno, at := machine.New(source, input)
	if errno != api.OK {
		return api.Result{}, errno, at
	}
	if fuel < 0 || fuel > api.MaxFuel {
		return api.Result{}, api.ErrFuel, 0
	}
	steps := 0
	for steps < fuel && m.End() == api.Running {
		m.Step()
		steps++
	}
	output := m.Output()
	return api.Result{End: m.End(), Steps: steps, Output: output}, api.OK, 0
}
