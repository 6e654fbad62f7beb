package retrace_test

import (
	"strings"
	"testing"

	"retrace/api"
	"retrace/retrace"
)

// checkHeld asks twice, as to ask changes nothing.
func checkHeld(t *testing.T, s *retrace.Session, low, count int) {
	t.Helper()
	for range 2 {
		if l, n := s.Held(); l != low || n != count {
			t.Errorf("P12: index %d: Held() = %d, %d, want %d, %d", s.Where().Index, l, n, low, count)
		}
	}
}

func TestP12New(t *testing.T) {
	for _, source := range []string{"proc main\nend", lines(example...), down} {
		for _, capacity := range []int{5, 6, 499, 500} {
			s := begin(t, source, rising(5), capacity)
			checkHeld(t, s, 0, 0)
			s.Forward(api.Continue, 0)
			checkHeld(t, s, 0, 0)
			mark(t, s, s.Where().Line)
			s.Backward(api.Continue, 1000)
			checkHeld(t, s, 0, 0)
		}
	}
}

// The example, with the records of its steps as the document tells them.
func TestP12Example(t *testing.T) {
	records := []int{1, 1, 2, 2, 1, 1, 2, 2, 1, 1, 2, 2, 1}
	narrowly := [][2]int{{0, 1}, {0, 2}, {0, 4}, {1, 5}, {2, 5}, {3, 4}, {4, 4}, {5, 5}, {6, 5}, {7, 4}, {8, 4}, {9, 5}, {10, 5}}
	roomy, narrow := begin(t, lines(example...), nil, 500), begin(t, lines(example...), nil, 5)
	whole := 0
	for i, count := range records {
		whole += count
		roomy.Forward(api.Step, 1)
		checkHeld(t, roomy, 0, whole)
		narrow.Forward(api.Step, 1)
		checkHeld(t, narrow, narrowly[i][0], narrowly[i][1])
	}
	// No step, no records.
	roomy.Forward(api.Step, 1)
	checkHeld(t, roomy, 0, whole)
	for i := len(records) - 1; i >= 0; i-- {
		whole -= records[i]
		roomy.Backward(api.Step, 1)
		checkHeld(t, roomy, 0, whole)
	}
}

// kinds has a step of each kind: the lines of a main, how many steps lead to
// the one that is meant, and its records.
var kinds = []struct {
	source  string
	ahead   int
	records int
	end     int // behind it
}{
	{body("set x to 5"), 0, 2, api.Running},
	{body("set x to x"), 0, 2, api.Running},
	{body("set a[2] to 5"), 0, 2, api.Running},
	{body("set a[0] to a[0]"), 0, 2, api.Running},
	{body("print 5"), 0, 2, api.Running},
	{body("read x"), 0, 3, api.Running},
	{body("if 1", "end"), 0, 1, api.Running},
	{body("if 0", "else", "end"), 0, 1, api.Running},
	{body("while 1", "end"), 0, 1, api.Running},
	{body("while 0", "end"), 0, 1, api.Running},
	{body("call f 1"), 0, 1, api.Running},
	{lines("proc f p", "set p to 5", "end", "proc main", "call f 1", "end"), 1, 2, api.Running},
	{lines("proc f p", "read p", "end", "proc main", "call f 1", "end"), 1, 3, api.Running},
	// A frame that is dropped, with each number of parameters.
	{lines("proc f", "end", "proc main", "call f", "end"), 1, 1, api.Running},
	{lines("proc f", "return", "end", "proc main", "call f", "end"), 1, 1, api.Running},
	{lines("proc main", "call f 1", "end", "proc f p", "end"), 1, 2, api.Running},
	{lines("proc main", "call f 1", "end", "proc f p", "return", "end"), 1, 2, api.Running},
	{lines("proc f p q", "end", "proc main", "call f 1, 2", "end"), 1, 3, api.Running},
	{lines("proc f p q", "return", "end", "proc main", "call f 1, 2", "end"), 1, 3, api.Running},
	{lines("proc f p q r", "end", "proc main", "call f 1, 2, 3", "end"), 1, 4, api.Running},
	{lines("proc f p q r", "return", "end", "proc main", "call f 1, 2, 3", "end"), 1, 4, api.Running},
	{lines("proc f p q r s", "end", "proc main", "call f 1, 2, 3, 4", "end"), 1, 5, api.Running},
	{lines("proc f p q r s", "return", "end", "proc main", "call f 1, 2, 3, 4", "end"), 1, 5, api.Running},
	{lines("proc main", "if x", "return", "end", "set x to 1", "call main", "end", "var x"), 4, 1, api.Running},
	{lines("proc f p q r s", "end", "proc main", "call f 1, 2, 3, 4", "end"), 0, 1, api.Running},
	// The steps that end a run.
	{body(), 0, 1, api.Halted},
	{body("return"), 0, 1, api.Halted},
	{body("set x to 1 / 0"), 0, 1, api.ByZero},
	{body("set a[1 % 0] to 1"), 0, 1, api.ByZero},
	{body("print 1 / 0"), 0, 1, api.ByZero},
	{body("if 1 / 0", "end"), 0, 1, api.ByZero},
	{body("while 1 / 0", "end"), 0, 1, api.ByZero},
	{body("call f 1 / 0"), 0, 1, api.ByZero},
	{body("set x to a[3]"), 0, 1, api.BadIndex},
	{body("set a[3] to 1"), 0, 1, api.BadIndex},
	{body("print a[-1]"), 0, 1, api.BadIndex},
	{body("read x", "read x"), 1, 1, api.NoInput},
	{body("call main"), 5, 1, api.TooDeep},
	{lines("proc main", "call f 1, 2, 3, 4", "end", "proc f p q r s", "call f 5, 6, 7, 8", "end"), 5, 1, api.TooDeep},
	{body("while 1", "print 1", "end"), 101, 1, api.Full},
}

func TestP12Kinds(t *testing.T) {
	for _, c := range kinds {
		s := begin(t, c.source, []int{7}, 500)
		s.Forward(api.Continue, c.ahead)
		_, before := s.Held()
		for range 3 {
			s.Forward(api.Continue, 1)
			if r := s.Where(); r.Index != c.ahead+1 || r.End != c.end {
				t.Fatalf("P10: %q: Where() = %+v, want end %d", c.source, r, c.end)
			}
			checkHeld(t, s, 0, before+c.records)
			s.Backward(api.Continue, 1)
			checkHeld(t, s, 0, before)
		}
	}
}

// A journal that steps with one record fill lets go of one with each more.
func TestP12FullByOnes(t *testing.T) {
	for _, capacity := range []int{5, 6, 17, 499, 500} {
		s := begin(t, "proc main\nwhile 1\nend\nend", nil, capacity)
		for i := 1; i <= capacity+20; i++ {
			s.Forward(api.Continue, 1)
			checkHeld(t, s, max(0, i-capacity), min(i, capacity))
		}
		s.Forward(api.Continue, 1000)
		checkHeld(t, s, 1020, capacity)
	}
}

// fives drops a frame with 4 parameters again and again: the steps have 1, 1
// and 5 records in turn.
var fives = lines("proc f p q r s", "end", "proc main", "while 1", "call f 1, 2, 3, 4", "end", "end")

// One step may let go of several, down to itself alone.
func TestP12FullByFives(t *testing.T) {
	s := begin(t, fives, nil, 5)
	for i, want := range [][2]int{{0, 1}, {0, 2}, {2, 5}, {3, 1}, {3, 2}, {5, 5}, {6, 1}, {6, 2}, {8, 5}} {
		s.Forward(api.Step, 1)
		if s.Where().Index != i+1 {
			t.Fatalf("P10: Where() = %+v", s.Where())
		}
		checkHeld(t, s, want[0], want[1])
	}
	s = begin(t, fives, nil, 6)
	for _, want := range [][2]int{{0, 1}, {0, 2}, {1, 6}, {2, 6}, {3, 2}, {4, 6}, {5, 6}, {6, 2}} {
		s.Forward(api.Step, 1)
		checkHeld(t, s, want[0], want[1])
	}
	s = begin(t, fives, nil, 7)
	for _, want := range [][2]int{{0, 1}, {0, 2}, {0, 7}, {1, 7}, {2, 7}, {3, 7}, {4, 7}} {
		s.Forward(api.Step, 1)
		checkHeld(t, s, want[0], want[1])
	}
	// 213 steps are 71 rounds of 7 records each, 497 in all.
	s = begin(t, fives, nil, 500)
	s.Forward(api.Continue, 213)
	checkHeld(t, s, 0, 497)
	s.Forward(api.Continue, 2)
	checkHeld(t, s, 0, 499)
	s.Forward(api.Continue, 1)
	checkHeld(t, s, 3, 497)
	s.Backward(api.Continue, 1)
	checkHeld(t, s, 3, 492)
}

// sets has a step with 2 records so many times, and then its end.
func sets(count int) string {
	return "var x\nproc main" + strings.Repeat("\nset x to x + 1", count) + "\nend"
}

// What was let go does not come back, and what was taken back leaves its room
// to others.
func TestP12Room(t *testing.T) {
	s := begin(t, sets(60), nil, 11)
	checkTurns(t, s, []turn{
		{false, moves{api.Continue, 5, api.NoFuel, 5, 0, 8, 1, 5}, 0, 10},
		{false, moves{api.Step, 5, api.Reached, 1, 0, 9, 1, 6}, 1, 10},
		{true, moves{api.Continue, 3, api.NoFuel, 3, 0, 6, 1, 3}, 1, 4},
		{false, moves{api.Continue, 3, api.NoFuel, 3, 0, 9, 1, 6}, 1, 10},
		{true, moves{api.Continue, 9, api.Horizon, 5, 0, 4, 1, 1}, 1, 0},
		{false, moves{api.Continue, 6, api.NoFuel, 6, 0, 10, 1, 7}, 2, 10},
		{true, moves{api.Continue, 9, api.Horizon, 5, 0, 5, 1, 2}, 2, 0},
		{false, moves{api.Continue, 1000, api.Ended, 59, api.Halted, 63, 1, 61}, 55, 11},
		{false, moves{api.Continue, 1000, api.Ended, 0, api.Halted, 63, 1, 61}, 55, 11},
		{true, moves{api.Step, 1, api.Reached, 1, 0, 63, 1, 60}, 55, 10},
		{true, moves{api.Step, 1, api.Reached, 1, 0, 62, 1, 59}, 55, 8},
		{false, moves{api.Continue, 1000, api.Ended, 2, api.Halted, 63, 1, 61}, 55, 11},
	})
	if x, errno := s.Value("x"); x != 60 || errno != api.OK {
		t.Errorf("P13: Value(x) = %d, %d", x, errno)
	}
}

// The lowest index counts on and on, as the index does.
func TestP12Long(t *testing.T) {
	for _, capacity := range []int{5, 500} {
		s := begin(t, "var x\nproc main\nwhile 1\nset x to x + 1\nend\nend", nil, capacity)
		for range 30 {
			s.Forward(api.Continue, 1000)
		}
		low, count := 29997, 5
		if capacity == 500 {
			low, count = 29667, 500
		}
		checkHeld(t, s, low, count)
		for range 3 {
			if r, errno := s.Backward(api.Continue, 1000); r.Reason != api.Horizon || r.Index != low || errno != api.OK {
				t.Errorf("P13: Backward = %+v, %d", r, errno)
			}
			checkHeld(t, s, low, 0)
			if x, errno := s.Value("x"); x != low/2 || errno != api.OK {
				t.Errorf("P13: Value(x) = %d, %d", x, errno)
			}
		}
		s.Forward(api.Continue, 30000-low)
		checkHeld(t, s, low, count)
	}
}

// The capacity changes nothing but how far back the journal reaches: the same
// moves forward come to the same, and so do moves back that stay within the
// narrowest one.
func TestP12Capacity(t *testing.T) {
	for name, source := range map[string]string{"example": lines(example...), "down": down, "fives": fives, "hiding": hiding, "deep": deep} {
		var all []*retrace.Session
		for _, capacity := range []int{500, 5, 6, 7, 50} {
			s := begin(t, source, rising(5), capacity)
			mark(t, s, s.Where().Line)
			all = append(all, s)
		}
		for round := range 40 {
			low, _ := all[1].Held()
			if back := min(all[1].Where().Index-low, round%4); back > 0 {
				same(t, name, all, true, api.Continue, back)
			}
			same(t, name, all, false, round/4%4, []int{0, 1, 2, 3, 9}[round%5])
		}
	}
}

// same makes a move in all Sessions, and holds them against the first.
func same(t *testing.T, name string, all []*retrace.Session, back bool, kind, fuel int) {
	t.Helper()
	var first seen
	var firstReply api.Reply
	for i, s := range all {
		call := s.Forward
		if back {
			call = s.Backward
		}
		r, errno := call(kind, fuel)
		now := look(t, s)
		if i == 0 {
			first, firstReply = now, r
		}
		if (r.Reason == api.Start || r.Reason == api.Horizon) && firstReply.Moved == r.Moved {
			// How far back it reaches is the one thing that may differ.
			r.Reason = firstReply.Reason
		}
		if r != firstReply || errno != api.OK || !alike(now, first) {
			t.Fatalf("P12: %s: Session %d, back: %v, %d, %d: %+v, want %+v", name, i, back, kind, fuel, r, firstReply)
		}
	}
}
