package program

import "retrace/parse"

// First tells the stop at which a run begins.
func (p *Program) First() int {
	begin := p.Declaration(mainName)
	return p.GoOn(begin + 1)
}

// GoOn tells the stop that going on from line n comes to; 0, if there is none
// behind it.
func (p *Program) GoOn(n int) int {
	for n > 0 && n < len(p.Lines) {
		line := p.Lines[n]
		if p.IsStop(n) {
			return n
		}
		opener := p.Line(line.Opener)
		if line.Form.Kind == parse.End && opener.Form.Kind == parse.While {
			return line.Opener
		}
		// An else lies ahead of its end, so each round comes to a later line.
		if line.Form.Kind == parse.Else {
			n = opener.End
		}
		n++
	}
	return 0
}

// Otherwise tells the line from which it goes on where the value of the if or
// while at line n is 0.
func (p *Program) Otherwise(n int) int {
	line := p.Line(n)
	if line.Else > 0 {
		return line.Else + 1
	}
	return line.End + 1
}
