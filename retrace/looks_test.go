package retrace_test

import (
	"reflect"
	"slices"
	"strings"
	"testing"

	"retrace/api"
	"retrace/retrace"
)

// seen is all that a Session tells of its place.
type seen struct {
	where  api.Reply
	calls  []int
	output []int
	values map[string]int
	cells  map[string][]int
}

// look asks a Session for all names that the tests' sources have, and for some
// that none has; and asks that what is no value and no cell is an error alone.
func look(t *testing.T, s *retrace.Session) seen {
	t.Helper()
	all := seen{where: s.Where(), calls: s.Calls(), output: s.Output(), values: map[string]int{}, cells: map[string][]int{}}
	for _, name := range []string{"x", "y", "p", "q", "r", "s", "a", "b", "f", "g", "h", "n", "add", "main", "one", "all", "set", "to", "", " ", "X", "x ", "a[1]", "1", "\x00", "abcdefghi"} {
		value, errno := s.Value(name)
		if errno == api.OK {
			all.values[name] = value
		} else if errno != api.ErrName || value != 0 {
			t.Errorf("P11: Value(%q) = %d, %d", name, value, errno)
		}
		first, isArray := s.Cell(name, 0)
		cells := []int{}
		for value, errno := first, isArray; errno == api.OK; value, errno = s.Cell(name, len(cells)) {
			cells = append(cells, value)
		}
		if isArray == api.OK {
			all.cells[name] = cells
		}
		for _, i := range []int{-1, len(cells), len(cells) + 1, 32, -32, least, most} {
			want := api.ErrName
			if isArray == api.OK {
				want = api.ErrIndex
			}
			if value, errno := s.Cell(name, i); value != 0 || errno != want {
				t.Errorf("P11: Cell(%q, %d) = %d, %d, want %d", name, i, value, errno, want)
			}
		}
	}
	return all
}

// checkPlace holds a Session against the place of that index.
func checkPlace(t *testing.T, s *retrace.Session, places []place, index int) {
	t.Helper()
	p := places[index]
	all := look(t, s)
	if all.where != (api.Reply{End: p.end, Line: p.line, Depth: p.depth, Index: index}) {
		t.Fatalf("P8: index %d: Where() = %+v, want %+v", index, all.where, p)
	}
	if !slices.Equal(all.calls, p.calls) || !slices.Equal(all.output, p.output) {
		t.Fatalf("P11: index %d: calls %v, output %v, want %+v", index, all.calls, all.output, p)
	}
	if !reflect.DeepEqual(all.values, p.values) || !reflect.DeepEqual(all.cells, p.cells) {
		t.Fatalf("P11: index %d: values %v, cells %v, want %+v", index, all.values, all.cells, p)
	}
}

type values map[string]int
type cells map[string][]int

// checkLook makes a step, if one is asked for, and tells all values and cells
// that there are then.
func checkLook(t *testing.T, s *retrace.Session, steps int, line int, v values, c cells) {
	t.Helper()
	for range steps {
		s.Forward(api.Step, 1)
	}
	all := look(t, s)
	if all.where.Line != line || !reflect.DeepEqual(values(all.values), v) || !reflect.DeepEqual(cells(all.cells), c) {
		t.Errorf("P11: line %d, values %v, cells %v, want line %d, %v, %v", all.where.Line, all.values, all.cells, line, v, c)
	}
}

// hiding has parameters with the names of a variable, an array, procedures and
// of each other's.
var hiding = lines(
	"var x", // 1
	"array a 3",
	"array b 1",
	"proc f p x", // 4
	"set x to x + p",
	"set a[1] to x",
	"call g x, 7",
	"end",
	"proc g a p", // 9
	"set a to a + 1",
	"set x to x - 1",
	"set b[0] to p",
	"call h 5, 6, 8",
	"end",
	"proc main", // 15
	"set x to 10",
	"call f 2, 3",
	"set a[2] to x",
	"end",
	"proc h main f x", // 20
	"return",
	"end",
)

func TestP11Names(t *testing.T) {
	s := begin(t, hiding, nil, 5)
	checkLook(t, s, 0, 16, values{"x": 0}, cells{"a": {0, 0, 0}, "b": {0}})
	checkLook(t, s, 1, 17, values{"x": 10}, cells{"a": {0, 0, 0}, "b": {0}})
	// In f x is the parameter.
	checkLook(t, s, 1, 5, values{"x": 3, "p": 2}, cells{"a": {0, 0, 0}, "b": {0}})
	checkLook(t, s, 1, 6, values{"x": 5, "p": 2}, cells{"a": {0, 0, 0}, "b": {0}})
	checkLook(t, s, 1, 7, values{"x": 5, "p": 2}, cells{"a": {0, 5, 0}, "b": {0}})
	// In g a is no array but a parameter, x the variable, p another p.
	checkLook(t, s, 1, 10, values{"x": 10, "a": 5, "p": 7}, cells{"b": {0}})
	checkLook(t, s, 1, 11, values{"x": 10, "a": 6, "p": 7}, cells{"b": {0}})
	checkLook(t, s, 2, 13, values{"x": 9, "a": 6, "p": 7}, cells{"b": {7}})
	// In h the names of procedures are parameters.
	checkLook(t, s, 1, 21, values{"main": 5, "f": 6, "x": 8}, cells{"a": {0, 5, 0}, "b": {7}})
	checkLook(t, s, 1, 14, values{"x": 9, "a": 6, "p": 7}, cells{"b": {7}})
	checkLook(t, s, 1, 8, values{"x": 5, "p": 2}, cells{"a": {0, 5, 0}, "b": {7}})
	checkLook(t, s, 1, 18, values{"x": 9}, cells{"a": {0, 5, 0}, "b": {7}})
	checkLook(t, s, 1, 19, values{"x": 9}, cells{"a": {0, 5, 9}, "b": {7}})
	// Where the run has ended nothing is different.
	checkLook(t, s, 1, 19, values{"x": 9}, cells{"a": {0, 5, 9}, "b": {7}})
	if r := s.Where(); r.End != api.Halted {
		t.Errorf("P8: Where() = %+v", r)
	}
}

// At a trap the present frame is still the one in which it was met.
func TestP11AtTrap(t *testing.T) {
	for _, line := range []string{"print 1 / 0", "set p to a[3]", "set a[3] to 1", "read p", "call f p", "set x to 1 % (p - p)"} {
		source := lines("var x", "array a 3", "proc f p", "if p = 5", line, "end", "set p to p + 1", "call f p", "end", "proc main", "call f 1", "end")
		s := begin(t, source, nil, 5)
		s.Forward(api.Continue, 1000)
		if r := s.Where(); r.End < api.ByZero || r.Depth != 6 || r.Line != 5 {
			t.Fatalf("P10: %q: Where() = %+v", line, r)
		}
		checkLook(t, s, 1, 5, values{"x": 0, "p": 5}, cells{"a": {0, 0, 0}})
		if calls := s.Calls(); !slices.Equal(calls, []int{11, 8, 8, 8, 8}) {
			t.Errorf("P11: %q: Calls() = %v", line, calls)
		}
	}
}

// A frame's parameters are its own: those of the frames of the same procedure
// below it come to light again as it was left.
func TestP11Frames(t *testing.T) {
	s := begin(t, lines("proc f n", "set n to n * 2", "if n < 40", "call f n + 1", "end", "print n", "end", "proc main", "call f 1", "end"), nil, 5)
	s.Forward(api.Continue, 1)
	want := []int{2, 6, 14, 30, 62}
	for depth, n := range want {
		s.Forward(api.Continue, 1)
		if value, errno := s.Value("n"); value != n || errno != api.OK || s.Where().Depth != depth+2 {
			t.Errorf("P11: %+v: Value(n) = %d, %d, want %d", s.Where(), value, errno, n)
		}
		if n < 40 {
			s.Forward(api.Continue, 2)
		}
	}
	s.Forward(api.Continue, 2) // past the if and the print
	for i := len(want) - 1; i >= 0; i-- {
		if value, errno := s.Value("n"); value != want[i] || errno != api.OK || s.Where().Depth != i+2 {
			t.Errorf("P11: %+v: Value(n) = %d, %d, want %d", s.Where(), value, errno, want[i])
		}
		s.Forward(api.Finish, 100)
	}
	if value, errno := s.Value("n"); value != 0 || errno != api.ErrName {
		t.Errorf("P11: Value(n) in main = %d, %d", value, errno)
	}
}

func TestP11Cells(t *testing.T) {
	s := begin(t, body("set all[0] to 3", "set all[31] to 4", "set one[0] to 5", "set x to 6", "call f 9"), nil, 5)
	s.Forward(api.Continue, 5)
	for _, c := range []struct {
		name  string
		i     int
		want  int
		errno api.Errno
	}{
		{"all", 0, 3, api.OK}, {"all", 1, 0, api.OK}, {"all", 30, 0, api.OK}, {"all", 31, 4, api.OK}, {"all", 32, 0, api.ErrIndex}, {"all", -1, 0, api.ErrIndex},
		{"one", 0, 5, api.OK}, {"one", 1, 0, api.ErrIndex}, {"one", -1, 0, api.ErrIndex}, {"one", most, 0, api.ErrIndex}, {"one", least, 0, api.ErrIndex}, {"one", 1 << 32, 0, api.ErrIndex},
		{"a", 2, 0, api.OK}, {"a", 3, 0, api.ErrIndex},
		// What is no array is told ahead of the number.
		{"x", 0, 0, api.ErrName}, {"x", -1, 0, api.ErrName}, {"p", 0, 0, api.ErrName}, {"p", 1, 0, api.ErrName}, {"f", 0, 0, api.ErrName}, {"main", 9, 0, api.ErrName},
		{"", 0, 0, api.ErrName}, {"b", 0, 0, api.ErrName}, {"al", 0, 0, api.ErrName}, {"alll", 0, 0, api.ErrName}, {"a ", 0, 0, api.ErrName}, {"array", 0, 0, api.ErrName}, {strings.Repeat("a", 1<<20), 0, 0, api.ErrName},
	} {
		if value, errno := s.Cell(c.name, c.i); value != c.want || errno != c.errno {
			t.Errorf("P11: Cell(%.20q, %d) = %d, %d, want %d, %d", c.name, c.i, value, errno, c.want, c.errno)
		}
	}
	for name, want := range map[string]int{"x": 6, "y": 0, "p": 9} {
		if value, errno := s.Value(name); value != want || errno != api.OK {
			t.Errorf("P11: Value(%q) = %d, %d", name, value, errno)
		}
	}
	for _, name := range []string{"all", "one", "a", "f", "main", "z", "", "xx", "x ", "var", "0", strings.Repeat("x", 1<<20)} {
		if value, errno := s.Value(name); value != 0 || errno != api.ErrName {
			t.Errorf("P11: Value(%.20q) = %d, %d", name, value, errno)
		}
	}
}

func TestP11Example(t *testing.T) {
	s := begin(t, lines(example...), nil, 5)
	s.Forward(api.Continue, 3)
	if calls := s.Calls(); !slices.Equal(calls, []int{9}) {
		t.Errorf("P11: Calls() = %v", calls)
	}
	checkLook(t, s, 0, 6, values{"x": 2, "p": 2}, cells{"a": {0, 0, 0}})
	s.Forward(api.Continue, 8)
	if output := s.Output(); len(output) != 0 {
		t.Errorf("P11: Output() = %v", output)
	}
	checkLook(t, s, 0, 16, values{"x": 4}, cells{"a": {0, 4, 0}})
	for range 3 {
		s.Forward(api.Continue, 1)
		if output := s.Output(); !slices.Equal(output, []int{40}) {
			t.Errorf("P11: Output() = %v", output)
		}
	}
	if calls := s.Calls(); len(calls) != 0 {
		t.Errorf("P11: Calls() = %v", calls)
	}
}

func TestP11CallsAndOutput(t *testing.T) {
	s := begin(t, deep, nil, 5)
	for i, want := range []struct{ calls, output []int }{
		{nil, nil}, {nil, []int{1}}, {[]int{3}, []int{1}}, {[]int{3, 7}, []int{1}}, {[]int{3, 7}, []int{1, 3}}, {[]int{3}, []int{1, 3}}, {[]int{3, 8}, []int{1, 3}}, {[]int{3, 8}, []int{1, 3, 3}}, {[]int{3}, []int{1, 3, 3}}, {nil, []int{1, 3, 3}}, {nil, []int{1, 3, 3, 2}}, {nil, []int{1, 3, 3, 2}},
	} {
		if calls, output := s.Calls(), s.Output(); !slices.Equal(calls, want.calls) || !slices.Equal(output, want.output) {
			t.Errorf("P11: index %d: calls %v, output %v, want %v", i, calls, output, want)
		}
		s.Forward(api.Step, 1)
	}
	s = begin(t, body("while x < 60", "print x", "set x to x + 1", "end"), nil, 5)
	s.Forward(api.Continue, 1000)
	if output := s.Output(); !slices.Equal(output, rising(50)) || s.Where().End != api.Full {
		t.Errorf("P11: Output() = %v", output)
	}
}
