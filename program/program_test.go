package program

import (
	"reflect"
	"strings"
	"testing"

	"retrace/api"
)

func read(t *testing.T, source string) Program {
	t.Helper()
	p, errno, at := Read(source)
	if errno != api.OK || at != 0 {
		t.Fatalf("%q: %d, line %d", source, errno, at)
	}
	return p
}

func TestBlocks(t *testing.T) {
	p := read(t, strings.Join([]string{
		"var x",
		"proc f",
		"while 1",
		"if 1",
		"",
		"else",
		"return",
		"end",
		"end",
		"end",
		"",
		"proc main",
		"end",
	}, "\n"))
	want := [][5]int{
		{0, 0, 0, 0, 0},
		{0, 0, 0, 0, 0},
		{0, 0, 0, 10, 0},
		{1, 0, 0, 9, 2},
		{2, 0, 6, 8, 2},
		{3, 0, 0, 0, 2},
		{2, 4, 0, 0, 2},
		{3, 0, 0, 0, 2},
		{2, 4, 0, 0, 2},
		{1, 3, 0, 0, 2},
		{0, 2, 0, 0, 2},
		{0, 0, 0, 0, 0},
		{0, 0, 0, 13, 0},
		{0, 12, 0, 0, 12},
	}
	if len(p.Lines) != len(want) {
		t.Fatalf("%d lines", len(p.Lines))
	}
	for n, line := range p.Lines {
		if got := [5]int{line.Depth, line.Opener, line.Else, line.End, line.Proc}; got != want[n] {
			t.Errorf("line %d: depth, opener, else, end and procedure %v, want %v", n, got, want[n])
		}
	}
}

func TestRefusedGivesNothing(t *testing.T) {
	for source, want := range map[string]api.Errno{
		strings.Repeat("\n", 100): api.ErrLong,
		"?":                       api.ErrForm,
		"end":                     api.ErrNest,
		"proc men\nend":           api.ErrName,
	} {
		p, errno, _ := Read(source)
		if errno != want || !reflect.DeepEqual(p, Program{}) {
			t.Errorf("%q: %v, %d", source, p, errno)
		}
	}
}

// No promise reaches a line that is not there, so it is asked for here.
func TestNoLine(t *testing.T) {
	p := read(t, "proc main\nend")
	for _, n := range []int{-1, 0, 3, 1 << 62, -1 << 62} {
		if line := p.Line(n); !reflect.DeepEqual(line, Line{}) {
			t.Errorf("line %d: %v", n, line)
		}
	}
	for _, n := range []int{-1, 0, 1, 3, 1 << 62, -1 << 62} {
		if p.IsStop(n) {
			t.Errorf("line %d is a stop", n)
		}
	}
	if line := p.Line(1); line.Form.Name != "main" {
		t.Errorf("line 1: %v", line)
	}
}

// Behind this a program is what it was but for its tokens.
func TestDropTokens(t *testing.T) {
	source := "var x\nproc main\nif x\n\nend\nend"
	p, whole := read(t, source), read(t, source)
	p.DropTokens()
	for n, line := range whole.Lines {
		if line.Tokens = nil; !reflect.DeepEqual(p.Lines[n], line) {
			t.Errorf("line %d: %v", n, p.Lines[n])
		}
	}
}

func TestGoingOn(t *testing.T) {
	p := read(t, strings.Join([]string{
		"proc f",
		"while 1",
		"if 1",
		"",
		"else",
		"return",
		"end",
		"",
		"end",
		"if 0",
		"else",
		"",
		"end",
		"end",
		"",
		"proc main",
		"",
		"if 0",
		"end",
		"end",
		"",
	}, "\n"))
	if end := p.Line(1).End; end != 14 {
		t.Errorf("the end of line 1: %d", end)
	}
	if first := p.First(); first != 18 {
		t.Errorf("first: %d", first)
	}
	for n, want := range []int{0, 2, 2, 3, 2, 2, 6, 2, 2, 2, 10, 14, 14, 14, 14, 18, 18, 18, 18, 20, 20, 0, 0} {
		if n == 1 || n == 15 || n == 16 {
			continue // a run does not come to a line outside a procedure, nor to a proc
		}
		if stop := p.GoOn(n); stop != want {
			t.Errorf("going on from line %d: %d, want %d", n, stop, want)
		}
	}
	for n, want := range map[int]int{2: 10, 3: 6, 10: 12, 18: 20} {
		if line := p.Otherwise(n); line != want {
			t.Errorf("where line %d is 0: %d, want %d", n, line, want)
		}
	}
	for _, n := range []int{-1, 0, 22, 1 << 62, -1 << 62} {
		if stop := p.GoOn(n); stop != 0 {
			t.Errorf("going on from line %d: %d", n, stop)
		}
	}
}
