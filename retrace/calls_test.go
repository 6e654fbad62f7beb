package retrace_test

import (
	"math"
	"reflect"
	"slices"
	"strings"
	"testing"

	"retrace/api"
	"retrace/retrace"
)

func TestP1NoneFails(t *testing.T) {
	whole := lines(example...)
	// Every beginning and end of a source, and every byte in every place of a
	// short one.
	for i := range len(whole) + 1 {
		refused(t, whole[:i])
		refused(t, whole[i:])
	}
	short := "proc f p\ncall f -p\nend\nproc main\nend"
	for i := range len(short) {
		for b := range 256 {
			refused(t, short[:i]+string([]byte{byte(b)})+short[i+1:])
		}
	}
	for _, source := range []string{
		strings.Repeat("\n", 1<<20), strings.Repeat("(", 1<<20), strings.Repeat("a", 40000), strings.Repeat("9", 40000), strings.Repeat(" ", 40000), strings.Repeat("proc main ", 4000), strings.Repeat("if 1\n", 99), strings.Repeat("end\n", 99), strings.Repeat("\xff", 40000),
		"print", "print -", "print (", "print x[", "set", "set x", "set x[", "call", "call f 1,", "array a", "proc",
	} {
		refused(t, source)
	}
}

// A source that is refused is told ahead of any other error.
func TestP1FirstError(t *testing.T) {
	for _, n := range []int{0, 1, -1, math.MaxInt, math.MinInt} {
		for _, source := range []string{"", "?", "end", "\n\nvar x\nvar x", strings.Repeat("\n", 100)} {
			want, wantAt := refused(t, source)
			if _, errno, at := retrace.Run(source, []int{n}, n); errno != want || at != wantAt {
				t.Errorf("P1: Run(%q) with fuel %d: %d, line %d", source, n, errno, at)
			}
			if s, errno, at := retrace.New(source, []int{n}, n); s != nil || errno != want || at != wantAt {
				t.Errorf("P1: New(%q) with capacity %d: %v, %d, line %d", source, n, s, errno, at)
			}
		}
	}
}

// A source that is not at fault is run without failing, whatever it comes to.
func TestP1NoRunFails(t *testing.T) {
	ended := 0
	for i, source := range sources(3000) {
		input := [][]int{nil, {most, least, 0, -1, 1}, rising(100)}[i%3]
		for _, fuel := range []int{0, 1, 7, 1000} {
			r, errno, at := retrace.Run(source, input, fuel)
			if want, wantAt := refused(t, source); errno != want || at != wantAt {
				t.Fatalf("P3: Run(%q): %d, line %d", source, errno, at)
			}
			if r.Steps < 0 || r.Steps > fuel || r.End == api.Running && errno == api.OK && r.Steps != fuel {
				t.Fatalf("P6: Run(%q, %v, %d): %v", source, input, fuel, r)
			}
			if r.End != api.Running {
				ended++
			}
		}
	}
	if ended < 500 {
		t.Errorf("only %d runs ended", ended)
	}
}

const reading = "var x\nproc main\nwhile 1\nread x\nprint x\nend\nend"

func TestP2Input(t *testing.T) {
	for _, source := range []string{"", "?", lines(example...), reading} {
		for _, length := range []int{0, 1, 100, 101} {
			whole := make([]int, 120)
			for i := range whole {
				whole[i] = i
			}
			before := slices.Clone(whole)
			retrace.Run(source, whole[:length], 1000)
			retrace.New(source, whole[:length], 10)
			if !slices.Equal(whole, before) {
				t.Errorf("P2: the input of %d numbers was written into: %v", length, whole)
			}
		}
	}
}

func TestP2Lists(t *testing.T) {
	source := lines(example...)
	want := []int{5, 6, 8, 9, 11, 12, 14, 16, 17}
	first, _, _ := retrace.Stops(source)
	second, _, _ := retrace.Stops(source)
	spoil := first[:cap(first)]
	for i := range spoil {
		spoil[i] = -1
	}
	third, _, _ := retrace.Stops(source)
	if !slices.Equal(second, want) || !slices.Equal(third, want) {
		t.Errorf("P2: after the first list was written into: %v, %v", second, third)
	}
}

func TestP2Output(t *testing.T) {
	input := rising(20)
	first, _, _ := retrace.Run(reading, input[:10], 1000)
	second, _, _ := retrace.Run(reading, input[:10], 1000)
	spoil := first.Output[:cap(first.Output)]
	for i := range spoil {
		spoil[i] = -1
	}
	if !slices.Equal(input, rising(20)) {
		t.Errorf("P2: the input has become %v", input)
	}
	third, _, _ := retrace.Run(reading, input[:10], 1000)
	if !slices.Equal(second.Output, rising(10)) || !slices.Equal(third.Output, rising(10)) {
		t.Errorf("P2: after the first list was written into: %v, %v", second.Output, third.Output)
	}
	for i := range input {
		input[i] = -2
	}
	if !slices.Equal(second.Output, rising(10)) {
		t.Errorf("P2: after the input was written into: %v", second.Output)
	}
}

// What a call answers hangs on its arguments alone, not on what was asked
// before.
func TestP2Alone(t *testing.T) {
	all := sources(500)
	type answer struct {
		text   string
		stops  []int
		result api.Result
		errno  api.Errno
		at     int
	}
	ask := func(source string) answer {
		text, errno, at := retrace.Tidy(source)
		stops, _, _ := retrace.Stops(source)
		result, _, _ := retrace.Run(source, []int{1, 2}, 1000)
		return answer{text, stops, result, errno, at}
	}
	var answers []answer
	for _, source := range all {
		answers = append(answers, ask(source))
	}
	for i := len(all) - 1; i >= 0; i-- {
		a, b := answers[i], ask(all[i])
		if !reflect.DeepEqual(a, b) {
			t.Errorf("P2: %q: %v, then %v", all[i], a, b)
		}
	}
}
