package retrace_test

import (
	"math"
	"slices"
	"strings"
	"testing"

	"retrace/api"
	"retrace/retrace"
)

func TestP1NoneFails(t *testing.T) {
	whole := lines(example...)
	// Every beginning and end of a source, and every byte in every place of a
	// short one.
	for i := range len(whole) + 1 {
		refused(t, whole[:i])
		refused(t, whole[i:])
	}
	short := "proc f p\ncall f -p\nend\nproc main\nend"
	for i := range len(short) {
		for b := range 256 {
			refused(t, short[:i]+string([]byte{byte(b)})+short[i+1:])
		}
	}
	for _, source := range []string{
		strings.Repeat("\n", 1<<20), strings.Repeat("(", 1<<20), strings.Repeat("a", 40000), strings.Repeat("9", 40000), strings.Repeat(" ", 40000), strings.Repeat("proc main ", 4000), strings.Repeat("if 1\n", 99), strings.Repeat("end\n", 99), strings.Repeat("\xff", 40000),
		"print", "print -", "print (", "print x[", "set", "set x", "set x[", "call", "call f 1,", "array a", "proc",
	} {
		refused(t, source)
	}
}

// A source that is refused is told ahead of any other error.
func TestP1FirstError(t *testing.T) {
	for _, n := range []int{0, 1, -1, math.MaxInt, math.MinInt} {
		for _, source := range []string{"", "?", "end", "\n\nvar x\nvar x", strings.Repeat("\n", 100)} {
			want, wantAt := refused(t, source)
			if _, errno, at := retrace.Run(source, []int{n}, n); errno != want || at != wantAt {
				t.Errorf("P1: Run(%q) with fuel %d: %d, line %d", source, n, errno, at)
			}
			if s, errno, at := retrace.New(source, []int{n}, n); s != nil || errno != want || at != wantAt {
				t.Errorf("P1: New(%q) with capacity %d: %v, %d, line %d", source, n, s, errno, at)
			}
		}
	}
}

func TestP2Input(t *testing.T) {
	for _, source := range []string{"", "?", lines(example...)} {
		for _, length := range []int{0, 1, 100, 101} {
			whole := make([]int, 120)
			for i := range whole {
				whole[i] = i
			}
			before := slices.Clone(whole)
			retrace.Run(source, whole[:length], 10)
			retrace.New(source, whole[:length], 10)
			if !slices.Equal(whole, before) {
				t.Errorf("P2: the input of %d numbers was written into: %v", length, whole)
			}
		}
	}
}

func TestP2Lists(t *testing.T) {
	source := lines(example...)
	want := []int{5, 6, 8, 9, 11, 12, 14, 16, 17}
	first, _, _ := retrace.Stops(source)
	second, _, _ := retrace.Stops(source)
	spoil := first[:cap(first)]
	for i := range spoil {
		spoil[i] = -1
	}
	third, _, _ := retrace.Stops(source)
	if !slices.Equal(second, want) || !slices.Equal(third, want) {
		t.Errorf("P2: after the first list was written into: %v, %v", second, third)
	}
}

// What a call answers hangs on its arguments alone, not on what was asked
// before.
func TestP2Alone(t *testing.T) {
	all := sources(200)
	type answer struct {
		text  string
		stops []int
		errno api.Errno
		at    int
	}
	ask := func(source string) answer {
		text, errno, at := retrace.Tidy(source)
		stops, _, _ := retrace.Stops(source)
		return answer{text, stops, errno, at}
	}
	var answers []answer
	for _, source := range all {
		answers = append(answers, ask(source))
	}
	for i := len(all) - 1; i >= 0; i-- {
		a, b := answers[i], ask(all[i])
		if a.text != b.text || a.errno != b.errno || a.at != b.at || !slices.Equal(a.stops, b.stops) {
			t.Errorf("P2: %q: %v, then %v", all[i], a, b)
		}
	}
}
