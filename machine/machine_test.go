package machine

import (
	"reflect"
	"slices"
	"strings"
	"testing"

	"retrace/api"
	"retrace/parse"
)

func start(t *testing.T, input []int, l ...string) Machine {
	t.Helper()
	m, errno, at := New(strings.Join(l, "\n"), input)
	if errno != api.OK || at != 0 {
		t.Fatalf("%q: %d, line %d", l, errno, at)
	}
	return m
}

// copied gives a machine that shares no list with m that a step may change.
func copied(m Machine) Machine {
	m.input = slices.Clone(m.input)
	m.output = slices.Clone(m.output)
	m.frames = slices.Clone(m.frames)
	for i := range m.frames {
		m.frames[i].params = slices.Clone(m.frames[i].params)
	}
	m.values = slices.Clone(m.values)
	for i := range m.values {
		m.values[i] = slices.Clone(m.values[i])
	}
	return m
}

func TestFirstPlace(t *testing.T) {
	m := start(t, []int{4, 5}, "var x", "proc f p", "end", "array a 3", "proc main", "", "if x", "else", "end", "end")
	if m.line != 7 || m.end != api.Running || m.taken != 0 || len(m.output) != 0 {
		t.Errorf("line %d, end %d, %d numbers read, %v printed", m.line, m.end, m.taken, m.output)
	}
	if len(m.frames) != 1 || len(m.frames[0].params) != 0 || m.frames[0].call != 0 {
		t.Errorf("frames %v", m.frames)
	}
	for n, line := range m.program.Lines {
		if len(line.Tokens) > 0 {
			t.Errorf("line %d: tokens %v are kept", n, line.Tokens)
		}
	}
	for n, want := range map[int]int{0: 0, 1: 1, 2: 0, 4: 3, 5: 0, 10: 0} {
		if !slices.Equal(m.values[n], make([]int, want)) {
			t.Errorf("line %d: values %v", n, m.values[n])
		}
	}
}

func TestRefused(t *testing.T) {
	for source, want := range map[string]api.Errno{
		strings.Repeat("\n", 100): api.ErrLong,
		"?":                       api.ErrForm,
		"end":                     api.ErrNest,
		"proc men\nend":           api.ErrName,
	} {
		m, errno, _ := New(source, nil)
		if errno != want || !reflect.DeepEqual(m, Machine{}) {
			t.Errorf("%q: %v, %d", source, m, errno)
		}
	}
	m, errno, at := New("proc main\nend", make([]int, 101))
	if errno != api.ErrLong || at != 0 || !reflect.DeepEqual(m, Machine{}) {
		t.Errorf("101 numbers: %v, %d, line %d", m, errno, at)
	}
}

// The lines of the places of the example, and their depths.
func TestPlaces(t *testing.T) {
	m := start(t, nil, "var x", "array a 3", "", "proc add p", "set x to x + p", "end", "proc main", "while x < 3", "call add 2", "end", "if x = 4", "set a[1] to x", "else", "print 0", "end", "print a[1] * 10", "end")
	for i, line := range []int{8, 9, 5, 6, 8, 9, 5, 6, 8, 11, 12, 16, 17, 17} {
		depth := 1
		if line == 5 || line == 6 {
			depth = 2
		}
		if m.line != line || len(m.frames) != depth {
			t.Errorf("index %d: line %d, depth %d, want %d, %d", i, m.line, len(m.frames), line, depth)
		}
		if halted := m.end == api.Halted; halted != (i == 13) {
			t.Errorf("index %d: end %d", i, m.end)
		}
		m.Step()
	}
}

// standing runs a source till line 8, with 6 frames, 50 numbers printed and all
// input read.
func standing(t *testing.T, line string) Machine {
	t.Helper()
	m := start(t, []int{7}, "var x", "array a 3", "proc f p q", "if p < 4", "call f p + 1, q", "return", "end", line, "end",
		"proc main", "read x", "while x < 57", "set x to x + 1", "print x", "end", "set a[1] to 6", "call f 0, 9", "end")
	for range 1000 {
		if m.line == 8 {
			break
		}
		m.Step()
	}
	if m.line != 8 || len(m.frames) != 6 || len(m.output) != 50 || m.taken != 1 || m.end != api.Running {
		t.Fatalf("%q: line %d, %d frames, %d numbers printed, %d read, end %d", line, m.line, len(m.frames), len(m.output), m.taken, m.end)
	}
	return m
}

// checkEnd makes a step that must end the run and leave all else as it was; a
// step behind it changes nothing more.
func checkEnd(t *testing.T, m Machine, end int) {
	t.Helper()
	want := copied(m)
	want.end = end
	for range 2 {
		m.Step()
		if !reflect.DeepEqual(m, want) {
			t.Errorf("end %d, line %d, frames %v, values %v, want end %d, line %d, frames %v, values %v", m.end, m.line, m.frames, m.values, want.end, want.line, want.frames, want.values)
		}
	}
}

func TestTrapsLeaveTheRest(t *testing.T) {
	for line, end := range map[string]int{
		"set x to 1 / 0":         api.ByZero,
		"set p to p % 0":         api.ByZero,
		"set a[1] to 1 / 0":      api.ByZero,
		"set a[1 / 0] to 1":      api.ByZero,
		"set a[3] to 1 / 0":      api.ByZero,
		"print 1 / 0":            api.ByZero,
		"if 1 / 0\nend":          api.ByZero,
		"while 1 % 0\nend":       api.ByZero,
		"call f 1, 1 / 0":        api.ByZero,
		"set x to a[3]":          api.BadIndex,
		"set a[3] to 1":          api.BadIndex,
		"set a[-1] to 1":         api.BadIndex,
		"set a[0] to a[3]":       api.BadIndex,
		"print a[3]":             api.BadIndex,
		"if a[-1]\nend":          api.BadIndex,
		"while a[x]\nend":        api.BadIndex,
		"call f a[3], 1 / 0":     api.BadIndex,
		"read x":                 api.NoInput,
		"read p":                 api.NoInput,
		"call f 1, 2":            api.TooDeep,
		"call main":              api.TooDeep,
		"print 1":                api.Full,
		"print p + q * x - a[1]": api.Full,
	} {
		checkEnd(t, standing(t, line), end)
	}
}

func TestHaltLeavesTheRest(t *testing.T) {
	for _, last := range []string{"return", "", "if 1\nreturn\nend", "while 1\nreturn\nprint 1\nend"} {
		m := start(t, []int{7}, "var x", "array a 3", "proc main", "read x", "set a[1] to x", "print x", last, "end")
		for range 10 {
			if kind := m.program.Line(m.line).Form.Kind; kind == parse.Return || kind == parse.End {
				break
			}
			m.Step()
		}
		checkEnd(t, m, api.Halted)
	}
}

// What is handed in and what comes out are not the machine's own lists.
func TestLists(t *testing.T) {
	input := []int{4, 5, 6}
	m := start(t, input[:2], "var x", "proc main", "print 1", "read x", "print x", "read x", "print x", "end")
	m.Step()
	first := m.Output()
	for i := range input {
		input[i] = -1
	}
	first = append(first[:0], -1, -1, -1)
	for range 4 {
		m.Step()
	}
	if output := m.Output(); !slices.Equal(output, []int{1, 4, 5}) || !slices.Equal(first, []int{-1, -1, -1}) {
		t.Errorf("printed %v", output)
	}
}

// even makes lists without numbers nil, so that machines can be compared.
func even(m Machine) Machine {
	m = copied(m)
	if len(m.output) == 0 {
		m.output = nil
	}
	for i := range m.frames {
		if len(m.frames[i].params) == 0 {
			m.frames[i].params = nil
		}
	}
	return m
}

// Each step is undone to the place from which it was made, and made anew with
// the same records; the number of these is the one that the document tells.
func TestUndo(t *testing.T) {
	m := start(t, []int{7, 8, 9}, "var x", "array a 3", "proc f p q", "if p < 2", "read q", "set a[p] to q", "call f p + 1, q", "set p to 9", "else", "print q", "return", "end", "end",
		"proc main", "while x < 2", "set x to x + 1", "call f 0, 5", "end", "end")
	var places []Machine
	var steps [][]Record
	for m.end == api.Running {
		places = append(places, even(m))
		steps = append(steps, m.Step())
	}
	var counts []int
	for _, step := range steps {
		counts = append(counts, len(step))
		for i, record := range step {
			if record.Begins() != (i == 0) {
				t.Errorf("record %d of %v", i, step)
			}
		}
	}
	if want := []int{1, 2, 1, 1, 3, 2, 1, 1, 3, 2, 1, 1, 2, 3, 2, 3, 2, 3, 1, 2, 1, 1, 3, 2, 1, 1, 1}; m.end != api.NoInput || !slices.Equal(counts, want) {
		t.Fatalf("end %d, records %v, want %v", m.end, counts, want)
	}
	last := even(m)
	for i := len(steps) - 1; i >= 0; i-- {
		m.Undo(steps[i])
		if !reflect.DeepEqual(even(m), places[i]) {
			t.Fatalf("step %d undone: %v, want %v", i, m, places[i])
		}
	}
	for i, step := range steps {
		if again := m.Step(); !slices.Equal(again, step) {
			t.Errorf("step %d made anew: %v, was %v", i, again, step)
		}
	}
	if !reflect.DeepEqual(even(m), last) {
		t.Errorf("made anew: %v, want %v", m, last)
	}
	if records := m.Step(); len(records) != 0 {
		t.Errorf("no step was made: %v", records)
	}
}

// No source comes to these, as its names are checked and its places are stops;
// none of them fails.
func TestNothingThere(t *testing.T) {
	m := Machine{}
	if value := m.get(spot{}); value != 0 {
		t.Errorf("a machine without frames: %d", value)
	}
	m.Undo(nil)
	m.Undo([]Record{{}, {kind: printed}, {kind: passed}, {kind: entered}, {kind: stored, value: 1}})
	if !reflect.DeepEqual(m, Machine{}) {
		t.Errorf("a machine in which nothing was to be undone: %v", m)
	}
	m.Step()
	if m.end != api.Halted || m.line != 0 {
		t.Errorf("a machine without a program: %v", m)
	}
	m = start(t, nil, "var x", "array a 3", "proc main", "call f 4", "end", "proc f p", "end")
	m.Step()
	for _, s := range []spot{{0, 1}, {0, -1}, {1, 1}, {1, -1}, {2, 3}, {3, 0}, {-1, 0}, {8, 0}, {99, 0}, {1 << 62, -1 << 62}} {
		m.put(s, 5)
		if value := m.get(s); value != 0 || m.has(s) {
			t.Errorf("%v: %d", s, value)
		}
	}
	if value, trap := m.evaluate(parse.Expr{}); value != 0 || trap != api.Running {
		t.Errorf("an empty expression: %d, trap %d", value, trap)
	}
	if value, trap := m.value(parse.Form{}); value != 0 || trap != api.Running {
		t.Errorf("a line without an expression: %d, trap %d", value, trap)
	}
}
