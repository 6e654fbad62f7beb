package program

import (
	"reflect"
	"strings"
	"testing"

	"retrace/api"
)

func read(t *testing.T, source string) Program {
	t.Helper()
	p, errno, at := Read(source)
	if errno != api.OK || at != 0 {
		t.Fatalf("%q: %d, line %d", source, errno, at)
	}
	return p
}

func TestBlocks(t *testing.T) {
	p := read(t, strings.Join([]string{
		"var x",
		"proc f",
		"while 1",
		"if 1",
		"",
		"else",
		"return",
		"end",
		"end",
		"end",
		"",
		"proc main",
		"end",
	}, "\n"))
	want := [][3]int{
		{0, 0, 0},
		{0, 0, 0},
		{0, 0, 0},
		{1, 0, 2},
		{2, 0, 2},
		{3, 0, 2},
		{2, 4, 2},
		{3, 0, 2},
		{2, 4, 2},
		{1, 3, 2},
		{0, 2, 2},
		{0, 0, 0},
		{0, 0, 0},
		{0, 12, 12},
	}
	if len(p.Lines) != len(want) {
		t.Fatalf("%d lines", len(p.Lines))
	}
	for n, line := range p.Lines {
		if got := [3]int{line.Depth, line.Opener, line.Proc}; got != want[n] {
			t.Errorf("line %d: depth, opener and procedure %v, want %v", n, got, want[n])
		}
	}
}

func TestRefusedGivesNothing(t *testing.T) {
	for source, want := range map[string]api.Errno{
		strings.Repeat("\n", 100): api.ErrLong,
		"?":                       api.ErrForm,
		"end":                     api.ErrNest,
		"proc men\nend":           api.ErrName,
	} {
		p, errno, _ := Read(source)
		if errno != want || !reflect.DeepEqual(p, Program{}) {
			t.Errorf("%q: %v, %d", source, p, errno)
		}
	}
}

// No promise reaches the form of a line that is not there, so it is asked for
// here.
func TestFormOfNoLine(t *testing.T) {
	p := read(t, "proc main\nend")
	for _, n := range []int{-1, 0, 3, 1 << 62, -1 << 62} {
		if f := p.form(n); f.Kind != 0 || f.Name != "" {
			t.Errorf("line %d: %v", n, f)
		}
	}
	if f := p.form(1); f.Name != "main" {
		t.Errorf("line 1: %v", f)
	}
}
