package journal

import (
	"slices"
	"testing"

	"retrace/api"
	"retrace/machine"
)

// steps gives the records of the steps of a run: 1, 1, 1 and 3 in turn.
func steps(t *testing.T, count int) [][]machine.Record {
	t.Helper()
	m, errno, at := machine.New("proc f p q\nif p\nend\nend\nproc main\nwhile 1\ncall f 1, 2\nend\nend", nil)
	if errno != api.OK {
		t.Fatalf("%d, line %d", errno, at)
	}
	var all [][]machine.Record
	for range count {
		all = append(all, m.Step())
	}
	return all
}

func check(t *testing.T, j *Journal, low, count int) {
	t.Helper()
	if j.Low() != low || j.Count() != count {
		t.Errorf("low %d, %d records, want %d, %d", j.Low(), j.Count(), low, count)
	}
}

func TestJoinAndWithdraw(t *testing.T) {
	all := steps(t, 8)
	j := New(7)
	check(t, &j, 0, 0)
	for i, want := range [][2]int{{0, 1}, {0, 2}, {0, 3}, {0, 6}, {0, 7}, {1, 7}, {2, 7}, {4, 6}} {
		j.Join(all[i])
		check(t, &j, want[0], want[1])
	}
	for i, count := range []int{3, 2, 1, 0} {
		if step := j.Withdraw(); !slices.Equal(step, all[7-i]) {
			t.Errorf("step %d: %v, want %v", 7-i, step, all[7-i])
		}
		check(t, &j, 4, count)
	}
	// What was let go is gone.
	if step := j.Withdraw(); len(step) != 0 {
		t.Errorf("an empty journal gave %v", step)
	}
	check(t, &j, 4, 0)
	j.Join(all[4])
	check(t, &j, 4, 1)
}

// What comes out is not the journal's own list, nor is what is handed in kept.
func TestLists(t *testing.T) {
	all := steps(t, 8)
	j := New(20)
	for _, step := range all {
		handed := slices.Clone(step)
		j.Join(handed)
		clear(handed)
	}
	step := j.Withdraw()
	j.Join(all[3])
	if !slices.Equal(step, all[7]) {
		t.Errorf("the step that came out has become %v", step)
	}
	clear(step[:cap(step)])
	for _, i := range []int{3, 6, 5, 4, 3, 2, 1, 0} {
		if step := j.Withdraw(); !slices.Equal(step, all[i]) {
			t.Errorf("step %d: %v, want %v", i, step, all[i])
		}
	}
}

// No Session has a journal with so little room; it holds nothing then.
func TestNoRoom(t *testing.T) {
	for _, capacity := range []int{0, -1, -1 << 63} {
		j := New(capacity)
		for i, step := range steps(t, 8) {
			j.Join(step)
			check(t, &j, i+1, 0)
		}
		j.Join(nil)
		check(t, &j, 8, 0)
	}
}
