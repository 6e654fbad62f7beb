// Package journal keeps the records of the steps that were made last, as many
// as it has room for.
package journal

import "retrace/machine"

// Journal holds the records of the steps from the index low on, the earliest
// first.
type Journal struct {
	capacity int
	records  []machine.Record
	low      int
}

// New gives an empty journal with room for capacity records.
func New(capacity int) Journal {
	return Journal{capacity: capacity}
}

// Low tells the index of the place to which the journal reaches back.
func (j *Journal) Low() int {
	return j.low
}

// Count tells how many records the journal holds.
func (j *Journal) Count() int {
	return len(j.records)
}

// Join adds the records of a step that was made behind all others, and lets go
// of the earliest steps, if there is too little room.
func (j *Journal) Join(step []machine.Record) {
	j.records = append(j.records, step...)
	for len(j.records) > j.capacity && len(j.records) > 0 {
		j.letGo()
	}
}

// letGo drops the earliest step. The others move up, so that what is kept
// does not grow with the steps that were made.
func (j *Journal) letGo() {
	count := j.earliest()
	for i := count; i < len(j.records); i++ {
		j.records[i-count] = j.records[i]
	}
	j.records = j.records[:len(j.records)-count]
	j.low++
}

// earliest tells how many records the earliest step has.
func (j *Journal) earliest() int {
	count := 0
	for count < len(j.records) && (count == 0 || !j.records[count].Begins()) {
		count++
	}
	return count
}

// Withdraw drops the step that was made last, and gives its records, in a list
// of their own; none, if the journal is empty.
func (j *Journal) Withdraw() []machine.Record {
	first := len(j.records) - 1
	if first < 0 {
		return nil
	}
	for first > 0 && !j.records[first].Begins() {
		first--
	}
	var step []machine.Record
	step = append(step, j.records[first:]...)
	j.records = j.records[:first]
	return step
}
