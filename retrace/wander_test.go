package retrace_test

import (
	"math/rand"
	"slices"
	"strings"
	"testing"

	"retrace/api"
	"retrace/retrace"
)

// A second telling of P10, P12 and P13, on the places that rerun tells: a move
// is a way along their list. The tests move Sessions at random and hold them
// against it.

// longest is how many steps of a run are looked at.
const longest = 400

// journey is a place of a run, and what a journal holds there.
type journey struct {
	places         []place
	capacity       int
	low, at, count int
}

func (j *journey) forwardTo(to int) {
	for ; j.at < to; j.at++ {
		j.count += j.places[j.at].records
		for j.count > j.capacity {
			j.count -= j.places[j.low].records
			j.low++
		}
	}
}

func (j *journey) backTo(to int) {
	for j.at > to {
		j.at--
		j.count -= j.places[j.at].records
	}
}

// asked tells where a move forward ends, and why.
func (j *journey) asked(kind, fuel int, marks map[int]bool) (int, int) {
	for to := j.at; ; to++ {
		switch {
		case j.places[to].end != api.Running:
			return to, api.Ended
		case j.reached(to, kind):
			return to, api.Reached
		case to != j.at && marks[j.places[to].line]:
			return to, api.AtMark
		case to == j.at+fuel:
			return to, api.NoFuel
		}
	}
}

// askedBack tells where a move back ends, and why.
func (j *journey) askedBack(kind, fuel int, marks map[int]bool) (int, int) {
	for to := j.at; ; to-- {
		switch {
		case j.reached(to, kind):
			return to, api.Reached
		case to != j.at && marks[j.places[to].line]:
			return to, api.AtMark
		case to == 0:
			return to, api.Start
		case to == j.low:
			return to, api.Horizon
		case to == j.at-fuel:
			return to, api.NoFuel
		}
	}
}

func (j *journey) reached(to, kind int) bool {
	before, now := j.places[j.at].depth, j.places[to].depth
	return to != j.at && (kind == api.Step || kind == api.Next && now <= before || kind == api.Finish && now < before)
}

// ended is how a move ended.
type ended struct {
	back         bool
	kind, reason int
}

// wander is a Session that is moved at random.
type wander struct {
	source  string
	input   []int
	s       *retrace.Session
	journey journey
	stops   []int
	marks   map[int]bool
	met     map[ended]int
}

// newWander begins at a source that was made at random, or at one of those that
// run longer and deeper than most of these.
func newWander(t *testing.T, g *runs, capacity int, met map[ended]int) wander {
	t.Helper()
	w := wander{source: g.source(), input: g.input(), marks: map[int]bool{}, met: met}
	if g.random.Intn(4) == 0 {
		w.source = g.pick(twice, fives, down, deep, hiding, lines(example...))
		w.input = rising(g.random.Intn(30))
	}
	w.journey = journey{places: placesOf(w.source, w.input, longest), capacity: capacity}
	w.s = begin(t, w.source, w.input, capacity)
	w.stops, _, _ = retrace.Stops(w.source)
	w.check(t)
	return w
}

// beside gives another Session of the same source and input.
func (w *wander) beside(t *testing.T, capacity int) wander {
	t.Helper()
	other := *w
	other.s, other.marks = begin(t, w.source, w.input, capacity), map[int]bool{}
	other.journey = journey{places: w.journey.places, capacity: capacity}
	return other
}

func (w *wander) mark(t *testing.T, g *runs) {
	t.Helper()
	line := w.stops[g.random.Intn(len(w.stops))]
	if g.random.Intn(3) == 0 {
		line = g.random.Intn(strings.Count(w.source, "\n")+5) - 1
	}
	w.marks[line] = !w.marks[line] && slices.Contains(w.stops, line)
	if on, errno := w.s.Mark(line); on != w.marks[line] || (errno == api.OK) != slices.Contains(w.stops, line) {
		t.Fatalf("P9: %q: Mark(%d) = %v, %d", w.source, line, on, errno)
	}
}

func (w *wander) move(t *testing.T, g *runs, back bool) {
	t.Helper()
	at, kind := w.journey.at, g.random.Intn(4)
	fuel := []int{0, 1, g.random.Intn(6), g.random.Intn(60), 1000}[g.random.Intn(5)]
	call, to, reason := w.s.Backward, 0, 0
	if back {
		to, reason = w.journey.askedBack(kind, fuel, w.marks)
		w.journey.backTo(to)
	} else {
		if w.journey.places[len(w.journey.places)-1].end == api.Running {
			fuel = min(fuel, longest-at)
		}
		call = w.s.Forward
		to, reason = w.journey.asked(kind, fuel, w.marks)
		w.journey.forwardTo(to)
	}
	w.met[ended{back, kind, reason}]++
	p := w.journey.places[to]
	want := api.Reply{Reason: reason, Moved: max(to-at, at-to), End: p.end, Line: p.line, Depth: p.depth, Index: to}
	if r, errno := call(kind, fuel); r != want || errno != api.OK {
		t.Fatalf("P10, P13: %q, %v at index %d, capacity %d, marks %v, back: %v: %d, %d: %+v, %d, want %+v", w.source, w.input, at, w.journey.capacity, w.marks, back, kind, fuel, r, errno, want)
	}
	w.check(t)
}

func (w *wander) check(t *testing.T) {
	t.Helper()
	checkPlace(t, w.s, w.journey.places, w.journey.at)
	if low, count := w.s.Held(); low != w.journey.low || count != w.journey.count {
		t.Fatalf("P12: %q, %v at index %d, capacity %d: Held() = %d, %d, want %d, %d", w.source, w.input, w.journey.at, w.journey.capacity, low, count, w.journey.low, w.journey.count)
	}
}

// checkMet asks that each kind of move has ended for each reason that it can
// have, and often enough.
func checkMet(t *testing.T, met map[ended]int, back bool, reasons ...int) {
	t.Helper()
	for kind := api.Step; kind <= api.Continue; kind++ {
		for _, reason := range reasons {
			never := kind == api.Continue && reason == api.Reached || kind == api.Step && reason == api.AtMark
			if count := met[ended{back, kind, reason}]; count < 20 && !never || count > 0 && never {
				t.Errorf("back: %v: the kind %d ended %d times for the reason %d", back, kind, count, reason)
			}
		}
	}
}

func TestP8ToP11AgainstReference(t *testing.T) {
	g := &runs{random: rand.New(rand.NewSource(10))}
	met := map[ended]int{}
	for range 2000 {
		w := newWander(t, g, 5+g.random.Intn(496), met)
		for range 20 {
			for range g.random.Intn(3) {
				w.mark(t, g)
			}
			w.move(t, g, false)
		}
	}
	checkMet(t, met, false, api.Reached, api.AtMark, api.Ended, api.NoFuel)
}

func TestP12P13AgainstReference(t *testing.T) {
	g := &runs{random: rand.New(rand.NewSource(13))}
	met := map[ended]int{}
	for range 2000 {
		w := newWander(t, g, []int{5, 5 + g.random.Intn(20), 5 + g.random.Intn(496), 500}[g.random.Intn(4)], met)
		for range 40 {
			for range g.random.Intn(3) {
				w.mark(t, g)
			}
			w.move(t, g, g.random.Intn(2) == 0)
		}
	}
	checkMet(t, met, false, api.Reached, api.AtMark, api.Ended, api.NoFuel)
	checkMet(t, met, true, api.Reached, api.AtMark, api.Start, api.Horizon, api.NoFuel)
}

// Several Sessions, of the same source and of others, are moved in turn: each
// stays where it was while another one moves.
func TestP2WanderApart(t *testing.T) {
	g := &runs{random: rand.New(rand.NewSource(14))}
	for range 100 {
		var all []wander
		for range 3 {
			w := newWander(t, g, 5+g.random.Intn(60), map[ended]int{})
			all = append(all, w, w.beside(t, 5))
		}
		for range 40 {
			w := &all[g.random.Intn(len(all))]
			if g.random.Intn(3) == 0 {
				w.mark(t, g)
			}
			w.move(t, g, g.random.Intn(5) < 2)
			for i := range all {
				all[i].check(t)
			}
		}
	}
}
