package retrace_test

import (
	"reflect"
	"slices"
	"testing"

	"retrace/api"
	"retrace/retrace"
)

// turn is a move forward or back, what it must tell, and what the journal must
// hold behind it.
type turn struct {
	back      bool
	move      moves
	low, held int
}

func checkTurns(t *testing.T, s *retrace.Session, all []turn) {
	t.Helper()
	for i, c := range all {
		call := s.Forward
		if c.back {
			call = s.Backward
		}
		m := c.move
		want := api.Reply{Reason: m.reason, Moved: m.moved, End: m.end, Line: m.line, Depth: m.depth, Index: m.index}
		if r, errno := call(m.kind, m.fuel); r != want || errno != api.OK {
			t.Errorf("P10, P13: turn %d: back: %v, %d, %d: %+v, %d, want %+v", i, c.back, m.kind, m.fuel, r, errno, want)
		}
		want.Reason, want.Moved = api.None, 0
		if r := s.Where(); r != want {
			t.Errorf("P8: behind turn %d: Where() = %+v, want %+v", i, r, want)
		}
		checkHeld(t, s, c.low, c.held)
	}
}

// alike tells whether two looks tell the same; a list without numbers may be
// nil.
func alike(a, b seen) bool {
	return a.where == b.where && slices.Equal(a.calls, b.calls) && slices.Equal(a.output, b.output) && reflect.DeepEqual(a.values, b.values) && reflect.DeepEqual(a.cells, b.cells)
}

func TestP13Refused(t *testing.T) {
	fresh, midway, ended, horizon := begin(t, lines(example...), nil, 5), begin(t, lines(example...), nil, 500), begin(t, lines(example...), nil, 5), begin(t, lines(example...), nil, 5)
	midway.Forward(api.Continue, 6)
	ended.Forward(api.Continue, 1000)
	horizon.Forward(api.Continue, 1000)
	horizon.Backward(api.Continue, 1000)
	for _, s := range []*retrace.Session{fresh, midway, ended, horizon} {
		before := look(t, s)
		low, held := s.Held()
		for _, c := range badMoves {
			if r, errno := s.Backward(c.kind, c.fuel); r != (api.Reply{}) || errno != c.errno {
				t.Errorf("P13: Backward(%d, %d) = %+v, %d, want %d", c.kind, c.fuel, r, errno, c.errno)
			}
			if now := look(t, s); !alike(now, before) {
				t.Errorf("P1: Backward(%d, %d) was refused: %+v, ahead of it %+v", c.kind, c.fuel, now, before)
			}
			checkHeld(t, s, low, held)
		}
	}
}

func TestP13Example(t *testing.T) {
	s := begin(t, lines(example...), nil, 500)
	checkTurns(t, s, []turn{
		{false, moves{api.Continue, 8, api.NoFuel, 8, 0, 8, 1, 8}, 0, 12},
		{true, moves{api.Next, 100, api.Reached, 3, 0, 9, 1, 5}, 0, 7},
		{true, moves{api.Continue, 100, api.Start, 5, 0, 8, 1, 0}, 0, 0},
		{true, moves{api.Step, 0, api.Start, 0, 0, 8, 1, 0}, 0, 0},
	})
	s = begin(t, lines(example...), nil, 5)
	checkTurns(t, s, []turn{
		{false, moves{api.Continue, 100, api.Ended, 13, api.Halted, 17, 1, 13}, 10, 5},
		{true, moves{api.Continue, 100, api.Horizon, 3, 0, 12, 1, 10}, 10, 0},
	})
	checkLook(t, s, 0, 12, values{"x": 4}, cells{"a": {0, 0, 0}})
	if output := s.Output(); len(output) != 0 {
		t.Errorf("P13: Output() = %v", output)
	}
	checkTurns(t, s, []turn{{false, moves{api.Step, 1, api.Reached, 1, 0, 16, 1, 11}, 10, 2}})
	checkLook(t, s, 0, 16, values{"x": 4}, cells{"a": {0, 4, 0}})
}

// A step of each kind is taken back to all that there was ahead of it, and made
// anew to all that there was behind it.
func TestP13Kinds(t *testing.T) {
	for _, c := range kinds {
		s := begin(t, c.source, []int{7}, 500)
		s.Forward(api.Continue, c.ahead)
		before := look(t, s)
		s.Forward(api.Step, 1)
		behind := look(t, s)
		for range 3 {
			for kind := api.Step; kind <= api.Continue; kind++ {
				if r, errno := s.Backward(kind, 1); r.Moved != 1 || r.Index != c.ahead || r.End != api.Running || errno != api.OK {
					t.Errorf("P13: %q: Backward(%d, 1) = %+v, %d", c.source, kind, r, errno)
				}
				if now := look(t, s); !alike(now, before) {
					t.Errorf("P13: %q: back to %+v, want %+v", c.source, now, before)
				}
				s.Forward(kind, 1)
				if now := look(t, s); !alike(now, behind) {
					t.Errorf("P13: %q: on to %+v, want %+v", c.source, now, behind)
				}
			}
		}
	}
}

// walked goes through a run to its end or to the index most, and tells what
// there was to see at each index, and what the journal held.
func walked(t *testing.T, s *retrace.Session, most int) ([]seen, [][2]int) {
	t.Helper()
	var all []seen
	var held [][2]int
	for {
		all = append(all, look(t, s))
		low, count := s.Held()
		held = append(held, [2]int{low, count})
		if len(all) > most || s.Where().End != api.Running {
			return all, held
		}
		s.Forward(api.Step, 1)
	}
}

// twice reads and prints on each way through, in procedures that call
// themselves, and ends by a trap.
var twice = lines(
	"var x", // 1
	"array a 4",
	"proc f n q", // 3
	"read q",
	"set a[n] to a[n] + q",
	"if n < 3",
	"call f n + 1, q * 2",
	"else",
	"call g n, q, x, a[0]",
	"end",
	"set n to n + 10",
	"print n * q",
	"end",
	"proc g p q x a", // 14
	"set x to x - p",
	"set a to a + x",
	"read q",
	"print a",
	"return",
	"end",
	"proc main", // 21
	"while 1",
	"set x to x + 1",
	"call f 0, x",
	"end",
	"end",
)

// Forward to the end, back to the first place, forward again, and so on.
func TestP13ThereAndBack(t *testing.T) {
	for name, c := range map[string]struct {
		source string
		input  []int
		end    int
	}{
		"example": {lines(example...), nil, api.Halted},
		"down":    {down, []int{9, 8, 7, 6, 5}, api.Halted},
		"starved": {down, []int{9, 8, 7}, api.NoInput},
		"hiding":  {hiding, nil, api.Halted},
		"deep":    {deep, nil, api.Halted},
		"twice":   {twice, []int{3, 1, 4, 1, 5, 9, 2, 6, 5, 3, 5, 8}, api.NoInput},
		"bottom":  {lines("proc f n", "set n to n * 2", "call f n + 1", "end", "proc main", "call f 1", "end"), nil, api.TooDeep},
		"full":    {body("while 1", "print x", "set x to x + 1", "end"), nil, api.Full},
	} {
		s := begin(t, c.source, c.input, 500)
		all, held := walked(t, s, 300)
		last := len(all) - 1
		if s.Where().End != c.end || held[last][0] != 0 {
			t.Fatalf("%s: %+v, held %v", name, s.Where(), held[last])
		}
		check := func(i int) {
			t.Helper()
			if now := look(t, s); !alike(now, all[i]) {
				t.Fatalf("P13: %s: index %d: %+v, want %+v", name, i, now, all[i])
			}
			checkHeld(t, s, held[i][0], held[i][1])
		}
		for _, stride := range []int{1, 2, 3, 7, 1000} {
			for i := last; i > 0; {
				i = max(0, i-stride)
				s.Backward(api.Continue, stride)
				check(i)
			}
			for i := 0; i < last; {
				i = min(last, i+stride)
				s.Forward(api.Continue, stride)
				check(i)
			}
		}
		// To and fro, on the whole forward.
		s.Backward(api.Continue, 1000)
		for i := 0; i < last; i++ {
			s.Forward(api.Continue, 5)
			check(min(last, i+5))
			s.Backward(api.Continue, min(last, i+5)-i-1)
			check(i + 1)
		}
	}
}

// A number that was read is read again by the step that is made anew, and a
// parameter that was set is what it was.
func TestP13Frames(t *testing.T) {
	s := begin(t, twice, []int{3, 1, 4, 1, 5, 9}, 500)
	s.Forward(api.Continue, 19)
	checkLook(t, s, 0, 15, values{"x": 1, "p": 3, "q": 1, "a": 3}, cells{})
	if calls := s.Calls(); !slices.Equal(calls, []int{24, 7, 7, 7, 9}) {
		t.Fatalf("P11: Calls() = %v", calls)
	}
	s.Backward(api.Finish, 1000)
	checkLook(t, s, 0, 9, values{"x": 1, "n": 3, "q": 1}, cells{"a": {3, 1, 4, 1}})
	s.Backward(api.Finish, 1000)
	checkLook(t, s, 0, 7, values{"x": 1, "n": 2, "q": 4}, cells{"a": {3, 1, 4, 0}})
	s.Backward(api.Finish, 1000)
	checkLook(t, s, 0, 7, values{"x": 1, "n": 1, "q": 1}, cells{"a": {3, 1, 0, 0}})
	s.Backward(api.Continue, 2)
	checkLook(t, s, 0, 5, values{"x": 1, "n": 1, "q": 1}, cells{"a": {3, 0, 0, 0}})
	s.Backward(api.Continue, 1)
	checkLook(t, s, 0, 4, values{"x": 1, "n": 1, "q": 6}, cells{"a": {3, 0, 0, 0}})
	if calls := s.Calls(); !slices.Equal(calls, []int{24, 7}) {
		t.Fatalf("P13: Calls() = %v", calls)
	}
	checkLook(t, s, 1, 5, values{"x": 1, "n": 1, "q": 1}, cells{"a": {3, 0, 0, 0}})
}

// It goes back over calls, out of them and into them.
func TestP13NextAndFinish(t *testing.T) {
	s := begin(t, deep, nil, 500)
	checkTurns(t, s, []turn{
		{false, moves{api.Continue, 1000, api.Ended, 11, api.Halted, 5, 1, 11}, 0, 15},
		{true, moves{api.Next, 1000, api.Reached, 1, 0, 5, 1, 10}, 0, 14},
		{true, moves{api.Next, 1000, api.Reached, 1, 0, 4, 1, 9}, 0, 12},
		{true, moves{api.Next, 1000, api.Reached, 8, 0, 3, 1, 1}, 0, 2}, // over all that was called
		{true, moves{api.Next, 1000, api.Reached, 1, 0, 2, 1, 0}, 0, 0},
		{true, moves{api.Next, 1000, api.Start, 0, 0, 2, 1, 0}, 0, 0},
		{false, moves{api.Continue, 8, api.NoFuel, 8, 0, 9, 2, 8}, 0, 11},
		{true, moves{api.Next, 3, api.Reached, 3, 0, 8, 2, 5}, 0, 7},
		{true, moves{api.Next, 2, api.NoFuel, 2, 0, 11, 3, 3}, 0, 4},
		{true, moves{api.Next, 2, api.Reached, 1, 0, 7, 2, 2}, 0, 3}, // the next move begins anew, at its own depth
		{true, moves{api.Next, 2, api.Reached, 1, 0, 3, 1, 1}, 0, 2}, // a lesser depth will do
	})
	s = begin(t, deep, nil, 500)
	checkTurns(t, s, []turn{
		{false, moves{api.Continue, 7, api.NoFuel, 7, 0, 12, 3, 7}, 0, 10},
		{true, moves{api.Finish, 1, api.NoFuel, 1, 0, 11, 3, 6}, 0, 8},
		{true, moves{api.Finish, 1, api.Reached, 1, 0, 8, 2, 5}, 0, 7},
		{true, moves{api.Finish, 3, api.NoFuel, 3, 0, 7, 2, 2}, 0, 3}, // as deep as it was is not less
		{true, moves{api.Finish, 1000, api.Reached, 1, 0, 3, 1, 1}, 0, 2},
		{true, moves{api.Finish, 1000, api.Start, 1, 0, 2, 1, 0}, 0, 0},
		{false, moves{api.Continue, 8, api.NoFuel, 8, 0, 9, 2, 8}, 0, 11},
		{true, moves{api.Finish, 1000, api.Reached, 7, 0, 3, 1, 1}, 0, 2},
		{false, moves{api.Continue, 1000, api.Ended, 10, api.Halted, 5, 1, 11}, 0, 15},
		{true, moves{api.Finish, 1000, api.Start, 11, 0, 2, 1, 0}, 0, 0},
	})
}

// One step at a time, with whatever fuel is left over.
func TestP13Steps(t *testing.T) {
	held := []int{0, 1, 2, 4, 6, 7, 8, 10, 12, 13, 14, 16, 18, 19}
	s := begin(t, lines(example...), nil, 500)
	s.Forward(api.Continue, 1000)
	for i, line := range []int{17, 16, 12, 11, 8, 6, 5, 9, 8, 6, 5, 9, 8} {
		depth, index := 1, 12-i
		if line == 5 || line == 6 {
			depth = 2
		}
		checkTurns(t, s, []turn{{true, moves{api.Step, 1 + i%2*999, api.Reached, 1, 0, line, depth, index}, 0, held[index]}})
		if index > 0 {
			checkTurns(t, s, []turn{{true, moves{api.Step, 0, api.NoFuel, 0, 0, line, depth, index}, 0, held[index]}})
		}
	}
	for kind := api.Step; kind <= api.Continue; kind++ {
		for _, fuel := range []int{0, 1, 1000} {
			checkTurns(t, s, []turn{{true, moves{kind, fuel, api.Start, 0, 0, 8, 1, 0}, 0, 0}})
		}
	}
}

// More steps can be taken back than one move may take.
func TestP13Fuel(t *testing.T) {
	s := begin(t, "proc main\nwhile 1\nend\nend", nil, 500)
	checkTurns(t, s, []turn{
		{false, moves{api.Continue, 500, api.NoFuel, 500, 0, 2, 1, 500}, 0, 500},
		{true, moves{api.Continue, 499, api.NoFuel, 499, 0, 2, 1, 1}, 0, 1},
		{true, moves{api.Finish, 1, api.Start, 1, 0, 2, 1, 0}, 0, 0},
		{false, moves{api.Continue, 501, api.NoFuel, 501, 0, 2, 1, 501}, 1, 500},
		{true, moves{api.Continue, 1000, api.Horizon, 500, 0, 2, 1, 1}, 1, 0},
		{true, moves{api.Continue, 1000, api.Horizon, 0, 0, 2, 1, 1}, 1, 0},
		{false, moves{api.Continue, 1000, api.NoFuel, 1000, 0, 2, 1, 1001}, 501, 500},
		{true, moves{api.Continue, 500, api.Horizon, 500, 0, 2, 1, 501}, 501, 0},
	})
}

// Which reason counts where several apply.
func TestP13Reasons(t *testing.T) {
	calling := lines("proc f", "end", "proc main", "call f", "print 1", "end") // the lines of its places: 4, 2, 5, 6, 6
	turning := "proc main\nwhile 1\nend\nend"
	for i, c := range []struct {
		source   string
		capacity int
		marks    []int
		ahead    int // steps that are made ahead of the move
		want     moves
		low      int
	}{
		// Reached, and all others with it.
		{calling, 5, []int{4}, 1, moves{api.Step, 1, api.Reached, 1, 0, 4, 1, 0}, 0},
		{calling, 5, []int{4}, 2, moves{api.Next, 2, api.Reached, 2, 0, 4, 1, 0}, 0},
		{calling, 5, []int{4}, 1, moves{api.Next, 1, api.Reached, 1, 0, 4, 1, 0}, 0},
		{calling, 5, []int{4}, 1, moves{api.Finish, 1, api.Reached, 1, 0, 4, 1, 0}, 0},
		{turning, 5, []int{2}, 6, moves{api.Step, 1, api.Reached, 1, 0, 2, 1, 5}, 1},
		{fives, 5, []int{2}, 3, moves{api.Step, 1, api.Reached, 1, 0, 2, 2, 2}, 2},
		{fives, 6, []int{5}, 4, moves{api.Next, 9, api.Reached, 1, 0, 4, 1, 3}, 2},
		{fives, 6, []int{5}, 3, moves{api.Next, 9, api.Reached, 2, 0, 5, 1, 1}, 1},
		{fives, 6, []int{5}, 2, moves{api.Finish, 9, api.Reached, 1, 0, 5, 1, 1}, 0},
		// AtMark, where the kind is not reached, at the first place and at the last
		// that is held, with fuel and without.
		{calling, 5, []int{4}, 1, moves{api.Continue, 1, api.AtMark, 1, 0, 4, 1, 0}, 0},
		{calling, 5, []int{4}, 2, moves{api.Finish, 2, api.AtMark, 2, 0, 4, 1, 0}, 0},
		{calling, 5, []int{4, 2}, 2, moves{api.Next, 9, api.AtMark, 1, 0, 2, 2, 1}, 0},
		{calling, 5, []int{2}, 4, moves{api.Continue, 9, api.AtMark, 3, 0, 2, 2, 1}, 0},
		{turning, 5, []int{2}, 6, moves{api.Continue, 9, api.AtMark, 1, 0, 2, 1, 5}, 1},
		{fives, 5, []int{2}, 3, moves{api.Continue, 1, api.AtMark, 1, 0, 2, 2, 2}, 2},
		{fives, 5, []int{2}, 3, moves{api.Next, 1, api.AtMark, 1, 0, 2, 2, 2}, 2},
		{fives, 5, []int{2}, 3, moves{api.Finish, 9, api.AtMark, 1, 0, 2, 2, 2}, 2},
		// At the line at which a run has ended too, but not where the move begins.
		{calling, 5, []int{6}, 4, moves{api.Continue, 9, api.AtMark, 1, 0, 6, 1, 3}, 0},
		{calling, 5, []int{6}, 3, moves{api.Continue, 9, api.Start, 3, 0, 4, 1, 0}, 0},
		{calling, 5, []int{6}, 4, moves{api.Continue, 0, api.NoFuel, 0, api.Halted, 6, 1, 4}, 0},
		{calling, 5, []int{4}, 0, moves{api.Continue, 9, api.Start, 0, 0, 4, 1, 0}, 0},
		{calling, 5, []int{4}, 0, moves{api.Step, 0, api.Start, 0, 0, 4, 1, 0}, 0},
		// Start, where the journal reaches back to it, with fuel and without.
		{calling, 5, nil, 0, moves{api.Step, 0, api.Start, 0, 0, 4, 1, 0}, 0},
		{calling, 5, nil, 0, moves{api.Next, 1, api.Start, 0, 0, 4, 1, 0}, 0},
		{calling, 5, nil, 1, moves{api.Continue, 1, api.Start, 1, 0, 4, 1, 0}, 0},
		{calling, 5, nil, 2, moves{api.Finish, 2, api.Start, 2, 0, 4, 1, 0}, 0},
		{calling, 5, nil, 4, moves{api.Continue, 1000, api.Start, 4, 0, 4, 1, 0}, 0},
		// Horizon, with fuel and without.
		{turning, 5, nil, 6, moves{api.Continue, 5, api.Horizon, 5, 0, 2, 1, 1}, 1},
		{turning, 5, nil, 6, moves{api.Finish, 6, api.Horizon, 5, 0, 2, 1, 1}, 1},
		{fives, 5, nil, 3, moves{api.Next, 1, api.Horizon, 1, 0, 2, 2, 2}, 2},
		{fives, 5, nil, 3, moves{api.Finish, 1000, api.Horizon, 1, 0, 2, 2, 2}, 2},
		{fives, 5, []int{4, 5}, 3, moves{api.Continue, 1000, api.Horizon, 1, 0, 2, 2, 2}, 2},
		// No fuel is told last; an end is no reason.
		{turning, 5, nil, 6, moves{api.Continue, 4, api.NoFuel, 4, 0, 2, 1, 2}, 1},
		{turning, 5, nil, 6, moves{api.Step, 0, api.NoFuel, 0, 0, 2, 1, 6}, 1},
		{calling, 5, nil, 2, moves{api.Next, 1, api.NoFuel, 1, 0, 2, 2, 1}, 0},
		{calling, 5, nil, 4, moves{api.Next, 0, api.NoFuel, 0, api.Halted, 6, 1, 4}, 0},
		{calling, 5, nil, 4, moves{api.Finish, 3, api.NoFuel, 3, 0, 2, 2, 1}, 0},
	} {
		s := begin(t, c.source, nil, c.capacity)
		s.Forward(api.Continue, c.ahead)
		mark(t, s, c.marks...)
		want := api.Reply{Reason: c.want.reason, Moved: c.want.moved, End: c.want.end, Line: c.want.line, Depth: c.want.depth, Index: c.want.index}
		if r, errno := s.Backward(c.want.kind, c.want.fuel); r != want || errno != api.OK {
			t.Errorf("P13: case %d: %+v: %+v, %d", i, c, r, errno)
		}
		if low, _ := s.Held(); low != c.low {
			t.Errorf("P12: case %d: %+v: Held() = %d", i, c, low)
		}
	}
}

// At the last place that is held each move tells it at once, whatever its fuel
// and whatever is marked there; and it goes forward from there as before.
func TestP13Horizon(t *testing.T) {
	for _, marked := range []bool{false, true} {
		s := begin(t, fives, nil, 5)
		s.Forward(api.Continue, 3)
		s.Backward(api.Step, 1)
		if marked {
			mark(t, s, 2)
		}
		for kind := api.Step; kind <= api.Continue; kind++ {
			for _, fuel := range []int{0, 1, 1000} {
				checkTurns(t, s, []turn{{true, moves{kind, fuel, api.Horizon, 0, 0, 2, 2, 2}, 2, 0}})
			}
		}
		checkLook(t, s, 0, 2, values{"p": 1, "q": 2, "r": 3, "s": 4}, cells{})
		checkTurns(t, s, []turn{
			{false, moves{api.Finish, 9, api.Reached, 1, 0, 4, 1, 3}, 2, 5},
			{false, moves{api.Step, 9, api.Reached, 1, 0, 5, 1, 4}, 3, 1},
			{true, moves{api.Continue, 9, api.Horizon, 1, 0, 4, 1, 3}, 3, 0},
		})
	}
}

// Marks stay where they are when steps are taken back, and a mark that was set
// or taken away behind a place counts at it.
func TestP13Marks(t *testing.T) {
	s := begin(t, lines(example...), nil, 500)
	s.Forward(api.Continue, 4)
	mark(t, s, 6)
	checkTurns(t, s, []turn{
		{true, moves{api.Continue, 1000, api.AtMark, 1, 0, 6, 2, 3}, 0, 4},
		{true, moves{api.Continue, 1000, api.Start, 3, 0, 8, 1, 0}, 0, 0},
		{false, moves{api.Continue, 1000, api.AtMark, 3, 0, 6, 2, 3}, 0, 4},
		{false, moves{api.Continue, 1000, api.AtMark, 4, 0, 6, 2, 7}, 0, 10},
		{false, moves{api.Continue, 1000, api.Ended, 6, api.Halted, 17, 1, 13}, 0, 19},
	})
	if on, errno := s.Mark(6); on || errno != api.OK {
		t.Errorf("P9: Mark(6) once more = %v, %d", on, errno)
	}
	mark(t, s, 8)
	checkTurns(t, s, []turn{
		{true, moves{api.Continue, 1000, api.AtMark, 5, 0, 8, 1, 8}, 0, 12},
		{true, moves{api.Continue, 1000, api.AtMark, 4, 0, 8, 1, 4}, 0, 6},
		{true, moves{api.Continue, 1000, api.AtMark, 4, 0, 8, 1, 0}, 0, 0},
		{true, moves{api.Continue, 1000, api.Start, 0, 0, 8, 1, 0}, 0, 0},
		{false, moves{api.Continue, 1000, api.AtMark, 4, 0, 8, 1, 4}, 0, 6},
	})
}
