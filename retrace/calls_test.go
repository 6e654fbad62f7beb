package retrace_test

import (
	"math"
	"math/rand"
	"reflect"
	"slices"
	"strings"
	"testing"

	"retrace/api"
	"retrace/retrace"
)

func TestP1NoneFails(t *testing.T) {
	whole := lines(example...)
	// Every beginning and end of a source, and every byte in every place of a
	// short one.
	for i := range len(whole) + 1 {
		refused(t, whole[:i])
		refused(t, whole[i:])
	}
	short := "proc f p\ncall f -p\nend\nproc main\nend"
	for i := range len(short) {
		for b := range 256 {
			refused(t, short[:i]+string([]byte{byte(b)})+short[i+1:])
		}
	}
	for _, source := range []string{
		strings.Repeat("\n", 1<<20), strings.Repeat("(", 1<<20), strings.Repeat("a", 40000), strings.Repeat("9", 40000), strings.Repeat(" ", 40000), strings.Repeat("proc main ", 4000), strings.Repeat("if 1\n", 99), strings.Repeat("end\n", 99), strings.Repeat("\xff", 40000),
		"print", "print -", "print (", "print x[", "set", "set x", "set x[", "call", "call f 1,", "array a", "proc",
	} {
		refused(t, source)
	}
}

// A source that is refused is told ahead of any other error.
func TestP1FirstError(t *testing.T) {
	for _, n := range []int{0, 1, -1, math.MaxInt, math.MinInt} {
		for _, source := range []string{"", "?", "end", "\n\nvar x\nvar x", strings.Repeat("\n", 100)} {
			want, wantAt := refused(t, source)
			if _, errno, at := retrace.Run(source, []int{n}, n); errno != want || at != wantAt {
				t.Errorf("P1: Run(%q) with fuel %d: %d, line %d", source, n, errno, at)
			}
			if s, errno, at := retrace.New(source, []int{n}, n); s != nil || errno != want || at != wantAt {
				t.Errorf("P1: New(%q) with capacity %d: %v, %d, line %d", source, n, s, errno, at)
			}
		}
	}
}

// A source that is not at fault is run without failing, whatever it comes to.
func TestP1NoRunFails(t *testing.T) {
	ended := 0
	for i, source := range sources(3000) {
		input := [][]int{nil, {most, least, 0, -1, 1}, rising(100)}[i%3]
		for _, fuel := range []int{0, 1, 7, 1000} {
			r, errno, at := retrace.Run(source, input, fuel)
			if want, wantAt := refused(t, source); errno != want || at != wantAt {
				t.Fatalf("P3: Run(%q): %d, line %d", source, errno, at)
			}
			if r.Steps < 0 || r.Steps > fuel || r.End == api.Running && errno == api.OK && r.Steps != fuel {
				t.Fatalf("P6: Run(%q, %v, %d): %v", source, input, fuel, r)
			}
			if r.End != api.Running {
				ended++
			}
		}
	}
	if ended < 500 {
		t.Errorf("only %d runs ended", ended)
	}
}

const reading = "var x\nproc main\nwhile 1\nread x\nprint x\nend\nend"

func TestP2Input(t *testing.T) {
	for _, source := range []string{"", "?", lines(example...), reading} {
		for _, length := range []int{0, 1, 100, 101} {
			whole := make([]int, 120)
			for i := range whole {
				whole[i] = i
			}
			before := slices.Clone(whole)
			retrace.Run(source, whole[:length], 1000)
			retrace.New(source, whole[:length], 10)
			if !slices.Equal(whole, before) {
				t.Errorf("P2: the input of %d numbers was written into: %v", length, whole)
			}
		}
	}
}

func TestP2Lists(t *testing.T) {
	source := lines(example...)
	want := []int{5, 6, 8, 9, 11, 12, 14, 16, 17}
	first, _, _ := retrace.Stops(source)
	second, _, _ := retrace.Stops(source)
	spoil(first)
	third, _, _ := retrace.Stops(source)
	if !slices.Equal(second, want) || !slices.Equal(third, want) {
		t.Errorf("P2: after the first list was written into: %v, %v", second, third)
	}
}

func TestP2Output(t *testing.T) {
	input := rising(20)
	first, _, _ := retrace.Run(reading, input[:10], 1000)
	second, _, _ := retrace.Run(reading, input[:10], 1000)
	spoil(first.Output)
	if !slices.Equal(input, rising(20)) {
		t.Errorf("P2: the input has become %v", input)
	}
	third, _, _ := retrace.Run(reading, input[:10], 1000)
	if !slices.Equal(second.Output, rising(10)) || !slices.Equal(third.Output, rising(10)) {
		t.Errorf("P2: after the first list was written into: %v, %v", second.Output, third.Output)
	}
	for i := range input {
		input[i] = -2
	}
	if !slices.Equal(second.Output, rising(10)) {
		t.Errorf("P2: after the input was written into: %v", second.Output)
	}
}

// What a call answers hangs on its arguments alone, not on what was asked
// before.
func TestP2Alone(t *testing.T) {
	all := sources(500)
	type answer struct {
		text   string
		stops  []int
		result api.Result
		errno  api.Errno
		at     int
	}
	ask := func(source string) answer {
		text, errno, at := retrace.Tidy(source)
		stops, _, _ := retrace.Stops(source)
		result, _, _ := retrace.Run(source, []int{1, 2}, 1000)
		return answer{text, stops, result, errno, at}
	}
	var answers []answer
	for _, source := range all {
		answers = append(answers, ask(source))
	}
	for i := len(all) - 1; i >= 0; i-- {
		a, b := answers[i], ask(all[i])
		if !reflect.DeepEqual(a, b) {
			t.Errorf("P2: %q: %v, then %v", all[i], a, b)
		}
	}
}

// askAmiss puts a Session to all calls that are refused, whatever it stands at.
func askAmiss(t *testing.T, s *retrace.Session) {
	t.Helper()
	for _, line := range []int{0, -1, 1, 101, least, most} {
		if on, errno := s.Mark(line); on || errno != api.ErrStop {
			t.Errorf("P9: Mark(%d) = %v, %d", line, on, errno)
		}
	}
	for _, n := range []int{-1, 4, 1001, least, most} {
		if r, errno := s.Forward(n, n); r != (api.Reply{}) || errno != api.ErrKind {
			t.Errorf("P10: Forward(%d, %d) = %+v, %d", n, n, r, errno)
		}
		if r, errno := s.Backward(n, n); r != (api.Reply{}) || errno != api.ErrKind {
			t.Errorf("P13: Backward(%d, %d) = %+v, %d", n, n, r, errno)
		}
	}
	for kind := api.Step; kind <= api.Continue; kind++ {
		for _, fuel := range []int{-1, 1001, least, most} {
			if r, errno := s.Forward(kind, fuel); r != (api.Reply{}) || errno != api.ErrFuel {
				t.Errorf("P10: Forward(%d, %d) = %+v, %d", kind, fuel, r, errno)
			}
			if r, errno := s.Backward(kind, fuel); r != (api.Reply{}) || errno != api.ErrFuel {
				t.Errorf("P13: Backward(%d, %d) = %+v, %d", kind, fuel, r, errno)
			}
		}
	}
	for _, name := range []string{"", "nothing", "set", "\xff", strings.Repeat("x", 1<<16)} {
		if value, errno := s.Value(name); value != 0 || errno != api.ErrName {
			t.Errorf("P11: Value(%.20q) = %d, %d", name, value, errno)
		}
		for _, i := range []int{0, -1, least, most} {
			if value, errno := s.Cell(name, i); value != 0 || errno != api.ErrName {
				t.Errorf("P11: Cell(%.20q, %d) = %d, %d", name, i, value, errno)
			}
		}
	}
}

// No Session fails, and one that was asked amiss is as one that was not.
func TestP1Sessions(t *testing.T) {
	g := runs{random: rand.New(rand.NewSource(1))}
	for range 150 {
		source, input := "var x\n"+strings.Replace(g.source(), "var x", "", 1), g.input()
		capacity := 5 + g.random.Intn(50)
		one, other := begin(t, source, input, capacity), begin(t, source, input, capacity)
		stops, _, _ := retrace.Stops(source)
		for i := range 18 {
			line := stops[g.random.Intn(len(stops))]
			one.Mark(line)
			other.Mark(line)
			askAmiss(t, one)
			kind, fuel := g.random.Intn(4), g.random.Intn(30)
			call, otherCall := one.Forward, other.Forward
			if i%3 == 2 {
				call, otherCall = one.Backward, other.Backward
			}
			r, errno := call(kind, fuel)
			if want, wantErrno := otherCall(kind, fuel); r != want || errno != wantErrno {
				t.Fatalf("P1: %q: move %d: %d, %d: %+v, %d, want %+v, %d", source, i, kind, fuel, r, errno, want, wantErrno)
			}
			askAmiss(t, one)
			if a, b := look(t, one), look(t, other); !alike(a, b) {
				t.Fatalf("P1: %q: %+v, want %+v", source, a, b)
			}
			low, count := other.Held()
			checkHeld(t, one, low, count)
		}
	}
}

// spoil writes over a list and its spare room.
func spoil(l []int) {
	l = l[:cap(l)]
	for i := range l {
		l[i] = -7
	}
}

// down reads a number at each depth, prints it and goes down, six frames deep.
var down = lines("var x", "proc f n", "read x", "print x", "if n < 5", "call f n + 1", "end", "print n", "end", "proc main", "call f 1", "end")

func TestP2SessionInput(t *testing.T) {
	whole := rising(100)
	s := begin(t, down, whole[:5], 5)
	if !slices.Equal(whole, rising(100)) {
		t.Errorf("P2: New has written into the input: %v", whole)
	}
	for i := range 40 {
		whole[i] = -i
		before := slices.Clone(whole)
		s.Forward(api.Step, 1)
		if i%3 == 0 {
			s.Backward(api.Step, 1)
			s.Forward(api.Step, 1)
		}
		if !slices.Equal(whole, before) {
			t.Errorf("P2: a move has written into the input: %v", whole)
		}
	}
	if output := s.Output(); !slices.Equal(output, []int{0, 1, 2, 3, 4, 5, 4, 3, 2, 1}) || s.Where().End != api.Halted {
		t.Errorf("P2: Output() = %v, %+v", output, s.Where())
	}
}

// Lists that came out are neither changed later nor change what comes later.
func TestP2SessionLists(t *testing.T) {
	one, other := begin(t, down, rising(5), 5), begin(t, down, rising(5), 5)
	var kept, keptBefore [][]int
	for i := range 91 {
		output, calls := one.Output(), one.Calls()
		if !slices.Equal(output, other.Output()) || !slices.Equal(calls, other.Calls()) {
			t.Errorf("P2: output %v, calls %v, want %v, %v", output, calls, other.Output(), other.Calls())
		}
		kept = append(kept, one.Output(), one.Calls())
		keptBefore = append(keptBefore, slices.Clone(output), slices.Clone(calls))
		spoil(output)
		spoil(calls)
		call, otherCall := one.Forward, other.Forward
		if i%3 == 2 {
			call, otherCall = one.Backward, other.Backward
		}
		r, _ := call(api.Step, 1)
		if want, _ := otherCall(api.Step, 1); r != want {
			t.Errorf("P2: move %d: %+v, want %+v", i, r, want)
		}
		if a, b := look(t, one), look(t, other); !alike(a, b) {
			t.Errorf("P2: %+v, want %+v", a, b)
		}
	}
	if r := one.Where(); r.End != api.Halted {
		t.Errorf("P10: Where() = %+v", r)
	}
	for i := range kept {
		if !slices.Equal(kept[i], keptBefore[i]) {
			t.Errorf("P2: the list %v has become %v", keptBefore[i], kept[i])
		}
	}
}

// Sessions do not change one another, nor what other calls answer.
func TestP2SessionsApart(t *testing.T) {
	g := runs{random: rand.New(rand.NewSource(2))}
	for range 100 {
		source, input := g.source(), g.input()
		stops, _, _ := retrace.Stops(source)
		run, _, _ := retrace.Run(source, input, 300)
		places := placesOf(source, input, 300)
		all := []*retrace.Session{begin(t, source, input, 5), begin(t, source, input, 500), begin(t, source, input, 5)}
		at := make([]int, len(all))
		for range 20 {
			i := g.random.Intn(len(all))
			if i == 0 {
				all[0].Mark(stops[g.random.Intn(len(stops))])
				r, _ := all[0].Forward(api.Continue, min(20, 300-at[0]))
				at[0] = r.Index
				continue
			}
			r, _ := all[i].Forward(api.Continue, min(15, 300-at[i]))
			if to := min(at[i]+15, 300, len(places)-1); r.Index != to || r.Reason == api.AtMark {
				t.Fatalf("P2: %q: Session %d, without marks: %+v", source, i, r)
			}
			at[i] = r.Index
			for j := range all {
				checkPlace(t, all[j], places, at[j])
			}
		}
		if again, _, _ := retrace.Run(source, input, 300); !reflect.DeepEqual(run, again) {
			t.Fatalf("P2: %q: Run = %v, then %v", source, run, again)
		}
		checkPlace(t, begin(t, source, input, 5), places, 0)
	}
}
