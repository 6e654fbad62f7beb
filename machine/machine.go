// Package machine runs a program, a step at a time, and takes steps back.
package machine

import (
	"retrace/api"
	"retrace/program"
)

// Machine is a program with its input, at a place of its run.
type Machine struct {
	program program.Program
	input   []int
	frames  []frame // the last one is the present one
	values  [][]int // values[n] is what line n declares: a variable's value, or an array's cells
	taken   int     // how many numbers of the input have been read
	output  []int
	line    int
	end     int
}

// frame is a procedure that has been called and is not done. Which one it is
// the line tells: that of the place, or of the next frame's call.
type frame struct {
	params []int
	call   int // the line of the call; 0, if it is the first frame
}

// New puts a source and an input at the first place; it answers the error and
// the line for which they are refused.
func New(source string, input []int) (Machine, api.Errno, int) {
	if len(input) > api.MaxInput {
		return Machine{}, api.ErrLong, 0
	}
	p, errno, at := program.Read(source)
	if errno != api.OK {
		return Machine{}, errno, at
	}
	// A machine may be kept for long, and no run looks at tokens.
	p.DropTokens()
	m := Machine{program: p}
	m.input = append(m.input, input...)
	m.frames = []frame{{}}
	m.line = m.program.First()
	m.declare()
	return m, api.OK, 0
}
