package program

import "retrace/parse"

// Tidy gives the text of the program, each line set in by its depth, and its
// tokens apart by one blank.
func (p *Program) Tidy() string {
	var text []byte
	for n := 1; n < len(p.Lines); n++ {
		if n > 1 {
			text = append(text, '\n')
		}
		line := tidyLine(p.Lines[n])
		text = append(text, line...)
	}
	return string(text)
}

func tidyLine(line Line) string {
	// An empty line is not set in.
	if len(line.Tokens) == 0 {
		return ""
	}
	var text []byte
	for i := 0; i < line.Depth; i++ {
		text = append(text, "  "...)
	}
	for i := 0; i < len(line.Tokens); i++ {
		if i > 0 {
			text = append(text, ' ')
		}
		text = append(text, line.Tokens[i].Text...)
	}
	return string(text)
}

// Stops tells the numbers of the lines at which a run can stand.
func (p *Program) Stops() []int {
	var stops []int
	for n := 1; n < len(p.Lines); n++ {
		if p.IsStop(n) {
			stops = append(stops, n)
		}
	}
	return stops
}

// IsStop tells whether a run can stand at line n.
func (p *Program) IsStop(n int) bool {
	line := p.Line(n)
	switch line.Form.Kind {
	case parse.SetName, parse.SetCell, parse.Print, parse.Read,
		parse.If, parse.While, parse.Call, parse.Return:
		return true
	case parse.End:
		return p.Line(line.Opener).Form.Kind == parse.Proc
	}
	return false
}
