// Package program reads a source whole: it refuses one that is at fault, and
// knows the blocks and names of one that is not.
package program

import (
	"retrace/api"
	"retrace/parse"
	"retrace/scan"
)

// Line is a line of a source. It names other lines by their numbers; 0 is
// none.
type Line struct {
	Tokens []scan.Token
	Form   parse.Form
	Depth  int // how many blocks it lies in; the one that it opens, closes or is the else of does not count
	Opener int // of an else and an end: the line that opened its block
	Else   int // of an if: its else
	End    int // of a proc, if or while: its end
	Proc   int // of a line in a procedure: the line where that begins
}

// Program is a source that is not refused. Lines[n] is its line n: Lines[0]
// is no line, and empty.
type Program struct {
	Lines []Line
}

// Read reads a source; it answers the error and the line for which the source
// is refused.
func Read(source string) (Program, api.Errno, int) {
	if scan.TooLong(source) {
		return Program{}, api.ErrLong, 0
	}
	p := Program{}
	// Each kind of fault is looked for in all lines ahead of the next kind: a
	// later line without form is told rather than an earlier one that does not
	// nest.
	errno, at := p.readForms(source)
	if errno == api.OK {
		errno, at = p.nestBlocks()
	}
	if errno == api.OK {
		errno, at = p.checkNames()
	}
	if errno != api.OK {
		return Program{}, errno, at
	}
	return p, api.OK, 0
}

// readForms reads each line by itself.
func (p *Program) readForms(source string) (api.Errno, int) {
	p.Lines = []Line{{}}
	texts := scan.Lines(source)
	for i := 0; i < len(texts); i++ {
		tokens, ok := scan.Tokens(texts[i])
		if !ok {
			return api.ErrForm, i + 1
		}
		form, ok := parse.Line(tokens)
		if !ok {
			return api.ErrForm, i + 1
		}
		p.Lines = append(p.Lines, Line{Tokens: tokens, Form: form})
	}
	return api.OK, 0
}

// DropTokens leaves the program without its tokens: it can't be tidied then.
func (p *Program) DropTokens() {
	for n := 0; n < len(p.Lines); n++ {
		p.Lines[n].Tokens = nil
	}
}

// Line gives a line; an empty one, if there is no such line.
func (p *Program) Line(n int) Line {
	if n < 0 || n >= len(p.Lines) {
		return Line{}
	}
	return p.Lines[n]
}
