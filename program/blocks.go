package program

import (
	"retrace/api"
	"retrace/parse"
)

// block is a block that is open.
type block struct {
	line    int // the one that opened it
	kind    int
	hasElse bool
}

// nesting is the blocks that are open at a line, the last opened one last.
type nesting struct {
	open []block
}

// nestBlocks fits the blocks together, and sets the Depth of each line and the
// lines that it names.
func (p *Program) nestBlocks() (api.Errno, int) {
	s := nesting{}
	for n := 1; n < len(p.Lines); n++ {
		line := p.Lines[n]
		if !s.admits(line.Form.Kind) {
			return api.ErrNest, n
		}
		p.Lines[n] = s.placed(line)
		p.link(n)
		s.pass(n, line.Form.Kind)
	}
	if len(s.open) > 0 {
		return api.ErrNest, len(p.Lines) - 1
	}
	return api.OK, 0
}

// admits tells whether a line of that kind may stand here.
func (s *nesting) admits(kind int) bool {
	switch kind {
	case parse.Empty:
		return true
	case parse.Var, parse.Array, parse.Proc:
		return len(s.open) == 0
	}
	if len(s.open) == 0 {
		return false
	}
	if kind == parse.Else {
		last := s.open[len(s.open)-1]
		return last.kind == parse.If && !last.hasElse
	}
	return true
}

// placed gives a line that stands here with its Depth, Opener and Proc.
func (s *nesting) placed(line Line) Line {
	if len(s.open) == 0 {
		return line
	}
	line.Depth = len(s.open)
	line.Proc = s.open[0].line
	if line.Form.Kind == parse.Else || line.Form.Kind == parse.End {
		line.Depth = len(s.open) - 1
		line.Opener = s.open[len(s.open)-1].line
	}
	return line
}

// link tells the line that opened a block where its else or end is, if line n
// is that.
func (p *Program) link(n int) {
	line := p.Line(n)
	if line.Opener < 1 || line.Opener >= len(p.Lines) {
		return
	}
	switch line.Form.Kind {
	case parse.Else:
		p.Lines[line.Opener].Else = n
	case parse.End:
		p.Lines[line.Opener].End = n
	}
}

// pass goes behind line n, which is of that kind.
func (s *nesting) pass(n int, kind int) {
	switch kind {
	case parse.Proc, parse.If, parse.While:
		s.open = append(s.open, block{line: n, kind: kind})
	case parse.Else:
		if len(s.open) > 0 {
			s.open[len(s.open)-1].hasElse = true
		}
	case parse.End:
		if len(s.open) > 0 {
			s.open = s.open[:len(s.open)-1]
		}
	}
}
