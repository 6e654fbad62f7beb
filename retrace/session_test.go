package retrace_test

import (
	"slices"
	"strings"
	"testing"

	"retrace/api"
	"retrace/retrace"
)

func begin(t *testing.T, source string, input []int, capacity int) *retrace.Session {
	t.Helper()
	s, errno, at := retrace.New(source, input, capacity)
	if s == nil || errno != api.OK || at != 0 {
		t.Fatalf("P7: New(%q, %v, %d): %d, line %d", source, input, capacity, errno, at)
	}
	return s
}

// moves is a call of Forward, and what it must tell.
type moves struct {
	kind, fuel    int
	reason, moved int
	end, line     int
	depth, index  int
}

// checkForward makes moves one after the other; behind each of them the place
// is the one that was told.
func checkForward(t *testing.T, s *retrace.Session, all []moves) {
	t.Helper()
	for i, c := range all {
		want := api.Reply{Reason: c.reason, Moved: c.moved, End: c.end, Line: c.line, Depth: c.depth, Index: c.index}
		if r, errno := s.Forward(c.kind, c.fuel); r != want || errno != api.OK {
			t.Errorf("P10: move %d: Forward(%d, %d) = %+v, %d, want %+v", i, c.kind, c.fuel, r, errno, want)
		}
		want.Reason, want.Moved = api.None, 0
		for range 2 {
			if r := s.Where(); r != want {
				t.Errorf("P8: behind move %d: Where() = %+v, want %+v", i, r, want)
			}
		}
	}
}

// mark marks lines that are stops and not marked.
func mark(t *testing.T, s *retrace.Session, stops ...int) {
	t.Helper()
	for _, line := range stops {
		if on, errno := s.Mark(line); !on || errno != api.OK {
			t.Errorf("P9: Mark(%d) = %v, %d", line, on, errno)
		}
	}
}

func TestP7Refused(t *testing.T) {
	whole := lines(example...)
	for _, c := range []struct {
		source   string
		length   int
		capacity int
		errno    api.Errno
		at       int
	}{
		{whole, 0, 5, api.OK, 0},
		{whole, 0, 6, api.OK, 0},
		{whole, 100, 500, api.OK, 0},
		{whole, 0, 4, api.ErrCap, 0},
		{whole, 0, 501, api.ErrCap, 0},
		{whole, 0, 0, api.ErrCap, 0},
		{whole, 0, -5, api.ErrCap, 0},
		{whole, 0, least, api.ErrCap, 0},
		{whole, 0, most, api.ErrCap, 0},
		{whole, 100, 4, api.ErrCap, 0},
		{whole, 101, 5, api.ErrLong, 0},
		{whole, 101, 4, api.ErrLong, 0},
		{with(11, "?"), 101, 501, api.ErrLong, 0},
		{with(11, "?"), 100, 501, api.ErrForm, 11},
		{with(15, ""), 0, 4, api.ErrNest, 17},
		{with(9, "call add"), 0, 501, api.ErrName, 9},
		{with(7, "proc men"), 0, 0, api.ErrName, 0},
		{strings.Repeat("\n", 100), 0, -1, api.ErrLong, 0},
	} {
		s, errno, at := retrace.New(c.source, make([]int, c.length), c.capacity)
		if errno != c.errno || at != c.at || (s == nil) != (errno != api.OK) {
			t.Errorf("P7: New(%.200q) with %d numbers and capacity %d: %v, %d, line %d, want %d, line %d", c.source, c.length, c.capacity, s, errno, at, c.errno, c.at)
		}
	}
}

func TestP7FirstPlace(t *testing.T) {
	for source, line := range map[string]int{
		lines(example...):           8,
		"proc main\nend":            2,
		"\nproc main\n\n\nend":      5,
		"proc main\nif 0\nend\nend": 2,
		"proc main\n\nwhile 0\nend\nend\nproc f\nend\nvar x": 3,
		"proc f\nprint 1\nend\nproc main\nreturn\nend":       5,
	} {
		for _, capacity := range []int{5, 500} {
			s := begin(t, source, []int{3}, capacity)
			if r := s.Where(); r != (api.Reply{Line: line, Depth: 1}) {
				t.Errorf("P8: %q: Where() = %+v", source, r)
			}
			if calls, output := s.Calls(), s.Output(); len(calls) != 0 || len(output) != 0 {
				t.Errorf("P11: %q: calls %v, output %v", source, calls, output)
			}
		}
	}
	s := begin(t, body("read x", "read y", "set a[2] to 1"), []int{3}, 5)
	for _, name := range []string{"x", "y"} {
		if value, errno := s.Value(name); value != 0 || errno != api.OK {
			t.Errorf("P7: Value(%q) = %d, %d", name, value, errno)
		}
	}
	for i := range 32 {
		if value, errno := s.Cell("all", i); value != 0 || errno != api.OK {
			t.Errorf("P7: Cell(all, %d) = %d, %d", i, value, errno)
		}
	}
	// No line is marked: nothing stops a move but what it looks for.
	checkForward(t, begin(t, lines(example...), nil, 5), []moves{
		{api.Continue, 1000, api.Ended, 13, api.Halted, 17, 1, 13},
	})
}

func TestP9(t *testing.T) {
	stops := []int{5, 6, 8, 9, 11, 12, 14, 16, 17}
	s := begin(t, lines(example...), nil, 5)
	for round, want := range []bool{true, false, true} {
		for line := -2; line < 103; line++ {
			on, errno := s.Mark(line)
			if !slices.Contains(stops, line) {
				if on || errno != api.ErrStop {
					t.Errorf("P9: round %d: Mark(%d) = %v, %d", round, line, on, errno)
				}
			} else if on != want || errno != api.OK {
				t.Errorf("P9: round %d: Mark(%d) = %v, %d", round, line, on, errno)
			}
		}
	}
	for _, line := range []int{least, most, 256 + 5, 1<<32 + 5} {
		if on, errno := s.Mark(line); on || errno != api.ErrStop {
			t.Errorf("P9: Mark(%d) = %v, %d", line, on, errno)
		}
	}
	// To mark is not to move, and all of these lines are marked.
	if r := s.Where(); r != (api.Reply{Line: 8, Depth: 1}) {
		t.Errorf("P9: Where() = %+v", r)
	}
	checkForward(t, s, []moves{
		{api.Continue, 9, api.AtMark, 1, 0, 9, 1, 1},
		{api.Continue, 9, api.AtMark, 1, 0, 5, 2, 2},
		{api.Continue, 9, api.AtMark, 1, 0, 6, 2, 3},
		{api.Continue, 9, api.AtMark, 1, 0, 8, 1, 4},
	})
}

// The last line that a source may have can be marked, the one behind it not.
func TestP9LastLine(t *testing.T) {
	source := "proc main\nreturn\nend\nproc f" + strings.Repeat("\nprint 1", 95) + "\nend"
	s := begin(t, source, nil, 5)
	mark(t, s, 2, 3, 5, 99, 100)
	for _, line := range []int{0, 1, 4, 101, 102} {
		if on, errno := s.Mark(line); on || errno != api.ErrStop {
			t.Errorf("P9: Mark(%d) = %v, %d", line, on, errno)
		}
	}
}

// A mark counts from when it is set till it is taken away, at whatever place.
func TestP9SetAndTaken(t *testing.T) {
	s := begin(t, lines(example...), nil, 5)
	mark(t, s, 9)
	checkForward(t, s, []moves{{api.Continue, 100, api.AtMark, 1, 0, 9, 1, 1}})
	if on, errno := s.Mark(9); on || errno != api.OK {
		t.Errorf("P9: Mark(9) once more = %v, %d", on, errno)
	}
	mark(t, s, 6, 12)
	checkForward(t, s, []moves{{api.Continue, 100, api.AtMark, 2, 0, 6, 2, 3}})
	if on, errno := s.Mark(10); on || errno != api.ErrStop {
		t.Errorf("P9: Mark(10) = %v, %d", on, errno)
	}
	checkForward(t, s, []moves{
		{api.Continue, 100, api.AtMark, 4, 0, 6, 2, 7},
		{api.Continue, 100, api.AtMark, 3, 0, 12, 1, 10},
		{api.Continue, 100, api.Ended, 3, api.Halted, 17, 1, 13},
	})
	// At a place whose end is not Running too.
	mark(t, s, 17)
	if on, errno := s.Mark(12); on || errno != api.OK {
		t.Errorf("P9: Mark(12) at the end = %v, %d", on, errno)
	}
	if on, errno := s.Mark(13); on || errno != api.ErrStop {
		t.Errorf("P9: Mark(13) at the end = %v, %d", on, errno)
	}
}

// badMoves are refused by Forward and Backward alike.
var badMoves = []struct {
	kind, fuel int
	errno      api.Errno
}{
	{-1, 1, api.ErrKind}, {4, 1, api.ErrKind}, {least, 1, api.ErrKind}, {most, 1, api.ErrKind}, {256, 1, api.ErrKind},
	{-1, -1, api.ErrKind}, {4, 1001, api.ErrKind}, {-1, 0, api.ErrKind}, {4, 1000, api.ErrKind},
	{api.Step, -1, api.ErrFuel}, {api.Step, 1001, api.ErrFuel}, {api.Next, -1, api.ErrFuel}, {api.Next, 1001, api.ErrFuel},
	{api.Finish, -1, api.ErrFuel}, {api.Finish, 1001, api.ErrFuel}, {api.Continue, -1, api.ErrFuel}, {api.Continue, 1001, api.ErrFuel},
	{api.Step, least, api.ErrFuel}, {api.Continue, most, api.ErrFuel},
}

func TestP10Refused(t *testing.T) {
	ended := begin(t, lines(example...), nil, 5)
	ended.Forward(api.Continue, 1000)
	midway := begin(t, lines(example...), nil, 5)
	midway.Forward(api.Continue, 6)
	for _, s := range []*retrace.Session{begin(t, lines(example...), nil, 5), midway, ended} {
		before := s.Where()
		for _, c := range badMoves {
			if r, errno := s.Forward(c.kind, c.fuel); r != (api.Reply{}) || errno != c.errno {
				t.Errorf("P10: Forward(%d, %d) = %+v, %d, want %d", c.kind, c.fuel, r, errno, c.errno)
			}
			if r := s.Where(); r != before {
				t.Errorf("P1: Forward(%d, %d) was refused: Where() = %+v, ahead of it %+v", c.kind, c.fuel, r, before)
			}
		}
	}
}

func TestP10Example(t *testing.T) {
	s := begin(t, lines(example...), nil, 500)
	checkForward(t, s, []moves{
		{api.Step, 1, api.Reached, 1, 0, 9, 1, 1},
		{api.Next, 100, api.Reached, 3, 0, 8, 1, 4},
	})
	s = begin(t, lines(example...), nil, 500)
	mark(t, s, 5)
	checkForward(t, s, []moves{
		{api.Step, 1, api.Reached, 1, 0, 9, 1, 1},
		{api.Next, 100, api.AtMark, 1, 0, 5, 2, 2},
		{api.Finish, 1, api.NoFuel, 1, 0, 6, 2, 3},
	})
	checkForward(t, begin(t, lines(example...), nil, 500), []moves{{api.Continue, 8, api.NoFuel, 8, 0, 8, 1, 8}})
	checkForward(t, begin(t, lines(example...), nil, 5), []moves{{api.Continue, 100, api.Ended, 13, api.Halted, 17, 1, 13}})
}

func TestP10Steps(t *testing.T) {
	s := begin(t, lines(example...), nil, 5)
	for i, line := range []int{8, 9, 5, 6, 8, 9, 5, 6, 8, 11, 12, 16, 17} {
		depth := 1
		if line == 5 || line == 6 {
			depth = 2
		}
		if i > 0 {
			checkForward(t, s, []moves{{api.Step, 1 + i%2*999, api.Reached, 1, 0, line, depth, i}})
		}
		checkForward(t, s, []moves{{api.Step, 0, api.NoFuel, 0, 0, line, depth, i}})
	}
	for kind := api.Step; kind <= api.Continue; kind++ {
		s := begin(t, lines(example...), nil, 5)
		s.Forward(api.Continue, 12)
		checkForward(t, s, []moves{
			{kind, 0, api.NoFuel, 0, 0, 17, 1, 12},
			{kind, 1, api.Ended, 1, api.Halted, 17, 1, 13},
			{kind, 0, api.Ended, 0, api.Halted, 17, 1, 13},
			{kind, 1, api.Ended, 0, api.Halted, 17, 1, 13},
			{kind, 1000, api.Ended, 0, api.Halted, 17, 1, 13},
		})
	}
}

// deep has calls within calls: main, f, g.
var deep = lines(
	"proc main", // 1
	"print 1",
	"call f",
	"print 2",
	"end",
	"proc f", // 6
	"call g",
	"call g",
	"end",
	"proc g", // 10
	"print 3",
	"end",
)

func TestP10Next(t *testing.T) {
	checkForward(t, begin(t, deep, nil, 5), []moves{
		{api.Next, 1000, api.Reached, 1, 0, 3, 1, 1},
		{api.Next, 1000, api.Reached, 8, 0, 4, 1, 9}, // over all that is called
		{api.Next, 1000, api.Reached, 1, 0, 5, 1, 10},
		{api.Next, 1000, api.Ended, 1, api.Halted, 5, 1, 11},
	})
	checkForward(t, begin(t, deep, nil, 5), []moves{
		{api.Continue, 2, api.NoFuel, 2, 0, 7, 2, 2},
		{api.Next, 3, api.Reached, 3, 0, 8, 2, 5},
		{api.Next, 3, api.Reached, 3, 0, 9, 2, 8},
		{api.Next, 3, api.Reached, 1, 0, 4, 1, 9}, // a lesser depth will do
	})
	checkForward(t, begin(t, deep, nil, 5), []moves{
		{api.Continue, 4, api.NoFuel, 4, 0, 12, 3, 4},
		{api.Next, 9, api.Reached, 1, 0, 8, 2, 5},
		{api.Next, 2, api.NoFuel, 2, 0, 12, 3, 7}, // the next move begins anew, at its own depth
		{api.Next, 1, api.Reached, 1, 0, 9, 2, 8},
		{api.Next, 1, api.Reached, 1, 0, 4, 1, 9},
	})
}

func TestP10Finish(t *testing.T) {
	checkForward(t, begin(t, deep, nil, 5), []moves{
		{api.Continue, 3, api.NoFuel, 3, 0, 11, 3, 3},
		{api.Finish, 1, api.NoFuel, 1, 0, 12, 3, 4},
		{api.Finish, 1, api.Reached, 1, 0, 8, 2, 5},
		{api.Finish, 3, api.NoFuel, 3, 0, 9, 2, 8}, // as deep as it was is not less
		{api.Finish, 1000, api.Reached, 1, 0, 4, 1, 9},
		{api.Finish, 1, api.NoFuel, 1, 0, 5, 1, 10},
		{api.Finish, 1, api.Ended, 1, api.Halted, 5, 1, 11},
	})
	checkForward(t, begin(t, deep, nil, 5), []moves{
		{api.Continue, 2, api.NoFuel, 2, 0, 7, 2, 2},
		{api.Finish, 1000, api.Reached, 7, 0, 4, 1, 9},
	})
	checkForward(t, begin(t, deep, nil, 5), []moves{{api.Finish, 1000, api.Ended, 11, api.Halted, 5, 1, 11}})
}

// Which reason counts where several apply.
func TestP10Reasons(t *testing.T) {
	type reasons struct {
		source string
		marks  []int
		ahead  int // steps that are made ahead of the move
		want   moves
	}
	calling := lines("proc f", "end", "proc main", "call f", "print 1", "end")
	trap := lines("proc f", "print 1 / 0", "end", "proc main", "call f", "end")
	for i, c := range []reasons{
		// Ended, and all others with it.
		{trap, []int{2}, 1, moves{api.Step, 1, api.Ended, 1, api.ByZero, 2, 2, 2}},
		{trap, []int{2}, 1, moves{api.Next, 1, api.Ended, 1, api.ByZero, 2, 2, 2}},
		{trap, []int{2}, 1, moves{api.Finish, 1, api.Ended, 1, api.ByZero, 2, 2, 2}},
		{trap, []int{2}, 1, moves{api.Continue, 1, api.Ended, 1, api.ByZero, 2, 2, 2}},
		{trap, []int{2}, 2, moves{api.Step, 0, api.Ended, 0, api.ByZero, 2, 2, 2}},
		{trap, nil, 1, moves{api.Continue, 1, api.Ended, 1, api.ByZero, 2, 2, 2}},
		{calling, []int{6}, 3, moves{api.Next, 1, api.Ended, 1, api.Halted, 6, 1, 4}},
		// Reached, with a mark and no fuel.
		{calling, []int{2}, 0, moves{api.Step, 1, api.Reached, 1, 0, 2, 2, 1}},
		{calling, []int{5}, 0, moves{api.Next, 2, api.Reached, 2, 0, 5, 1, 2}},
		{calling, []int{5}, 1, moves{api.Finish, 1, api.Reached, 1, 0, 5, 1, 2}},
		{calling, nil, 1, moves{api.Finish, 1, api.Reached, 1, 0, 5, 1, 2}},
		// AtMark, where the kind is not reached, with fuel and without.
		{calling, []int{2}, 0, moves{api.Next, 1, api.AtMark, 1, 0, 2, 2, 1}},
		{calling, []int{2}, 0, moves{api.Next, 9, api.AtMark, 1, 0, 2, 2, 1}},
		{calling, []int{2}, 0, moves{api.Finish, 1, api.AtMark, 1, 0, 2, 2, 1}},
		{calling, []int{6}, 1, moves{api.Continue, 2, api.AtMark, 2, 0, 6, 1, 3}},
		{calling, []int{6, 5}, 1, moves{api.Continue, 9, api.AtMark, 1, 0, 5, 1, 2}},
		// The mark at the line where the move begins does not count.
		{calling, []int{4}, 0, moves{api.Continue, 0, api.NoFuel, 0, 0, 4, 1, 0}},
		{calling, []int{4}, 0, moves{api.Step, 0, api.NoFuel, 0, 0, 4, 1, 0}},
		{calling, []int{4}, 0, moves{api.Continue, 9, api.Ended, 4, api.Halted, 6, 1, 4}},
		// But it does once a step has come to it again.
		{"proc main\nwhile 1\nend\nend", []int{2}, 0, moves{api.Continue, 9, api.AtMark, 1, 0, 2, 1, 1}},
		{"proc main\nwhile 1\nend\nend", []int{2}, 0, moves{api.Finish, 1, api.AtMark, 1, 0, 2, 1, 1}},
		{"proc main\nwhile 1\nend\nend", []int{2}, 0, moves{api.Next, 1, api.Reached, 1, 0, 2, 1, 1}},
		{"proc main\nwhile 1\nend\nend", []int{4}, 0, moves{api.Continue, 1000, api.NoFuel, 1000, 0, 2, 1, 1000}},
		// No fuel is told last.
		{calling, nil, 0, moves{api.Next, 1, api.NoFuel, 1, 0, 2, 2, 1}},
		{calling, nil, 0, moves{api.Next, 0, api.NoFuel, 0, 0, 4, 1, 0}},
		{calling, nil, 1, moves{api.Finish, 0, api.NoFuel, 0, 0, 2, 2, 1}},
		{calling, nil, 0, moves{api.Continue, 3, api.NoFuel, 3, 0, 6, 1, 3}},
		{calling, nil, 0, moves{api.Continue, 4, api.Ended, 4, api.Halted, 6, 1, 4}},
	} {
		s := begin(t, c.source, nil, 5)
		for range c.ahead {
			s.Forward(api.Step, 1)
		}
		mark(t, s, c.marks...)
		if r, errno := s.Forward(c.want.kind, c.want.fuel); r != (api.Reply{Reason: c.want.reason, Moved: c.want.moved, End: c.want.end, Line: c.want.line, Depth: c.want.depth, Index: c.want.index}) || errno != api.OK {
			t.Errorf("P10: case %d: %+v: %+v, %d", i, c, r, errno)
		}
	}
}

// Each end of a run is told, with the place as it was ahead of the last step.
func TestP10Ends(t *testing.T) {
	for source, want := range map[string]moves{
		body("return", "print 1"):         {0, 0, 0, 1, api.Halted, 10, 1, 1},
		body("print 1"):                   {0, 0, 0, 2, api.Halted, 11, 1, 2},
		body("print 1 / 0"):               {0, 0, 0, 1, api.ByZero, 10, 1, 1},
		body("set x to 1", "print a[3]"):  {0, 0, 0, 2, api.BadIndex, 11, 1, 2},
		body("read x", "read x"):          {0, 0, 0, 2, api.NoInput, 11, 1, 2},
		body("call main"):                 {0, 0, 0, 6, api.TooDeep, 10, 6, 6},
		body("while 1", "print 1", "end"): {0, 0, 0, 102, api.Full, 11, 1, 102},
	} {
		for _, capacity := range []int{5, 500} {
			s := begin(t, source, []int{1}, capacity)
			want.kind, want.fuel, want.reason = api.Continue, 1000, api.Ended
			again := want
			again.moved = 0
			checkForward(t, s, []moves{want, again})
		}
	}
}

// The index counts on and on, and more steps than one move may make.
func TestP10Long(t *testing.T) {
	s := begin(t, body("while 1", "set x to x + 1", "end"), nil, 5)
	for i := range 30 {
		checkForward(t, s, []moves{{api.Finish, 1000, api.NoFuel, 1000, 0, 10, 1, 1000 * (i + 1)}})
	}
	if x, errno := s.Value("x"); x != 15000 || errno != api.OK {
		t.Errorf("P11: Value(x) = %d, %d", x, errno)
	}
}
