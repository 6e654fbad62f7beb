package retrace_test

import (
	"maps"
	"math/big"
	"math/rand"
	"slices"
	"strconv"
	"strings"

	"retrace/api"
)

// A second telling of P6 and of the places of a run, made from the words of the
// document and by other means than the program's: blocks are run within blocks
// and calls within calls, expressions are cut at the sign that binds least, and
// numbers are as long as they come and are wrapped round behind each sign. The
// tests hold the program against it. It never goes back: each place is kept
// whole.

type rerun struct {
	source reference
	vars   map[string]int
	arrays map[string][]int
	params []map[string]int
	calls  []int
	input  []int
	fuel   int
	end    int
	steps  int
	output []int
	places []place // places[i] has the index i; none, if they are not looked for
	looks  bool
}

// place is what can be told of a place: of a name that can't stand in an
// expression there, there is no value, and no cells.
type place struct {
	end, line, depth int
	values           map[string]int
	cells            map[string][]int
	calls            []int
	output           []int
	records          int // of the step that is made from here; 0, if none is
}

type rerunStopped struct{}

// rerunOf answers as Run does; the source is not at fault.
func rerunOf(source string, input []int, fuel int) api.Result {
	r := rerun{input: input, fuel: fuel}
	r.run(source)
	return api.Result{End: r.end, Steps: r.steps, Output: r.output}
}

// placesOf gives the places of a run of at most fuel steps.
func placesOf(source string, input []int, fuel int) []place {
	r := rerun{input: input, fuel: fuel, looks: true}
	r.run(source)
	return r.places
}

func (r *rerun) run(source string) {
	r.vars, r.arrays = map[string]int{}, map[string][]int{}
	if errno, at := r.source.check(source); errno != api.OK {
		panic(source + ": refused at line " + strconv.Itoa(at))
	}
	for _, tokens := range r.source.lines {
		if len(tokens) == 3 && tokens[0] == "array" {
			cells, _ := strconv.Atoi(tokens[2])
			r.arrays[tokens[1]] = make([]int, cells)
		}
	}
	defer func() {
		if stopped := recover(); stopped != (rerunStopped{}) {
			panic(stopped)
		}
	}()
	r.proc("main", nil)
}

// stand is where a run stands at line i, ahead of a step.
func (r *rerun) stand(i int) {
	if r.looks {
		r.places = append(r.places, r.look(i))
	}
	if r.steps == r.fuel {
		panic(rerunStopped{})
	}
}

func (r *rerun) look(i int) place {
	p := place{end: r.end, line: i + 1, depth: len(r.params), calls: slices.Clone(r.calls), output: slices.Clone(r.output)}
	params := r.params[len(r.params)-1]
	p.values = map[string]int{}
	for name := range r.source.vars {
		p.values[name] = r.vars[name]
	}
	maps.Copy(p.values, params)
	p.cells = map[string][]int{}
	for name, cells := range r.arrays {
		if _, hidden := params[name]; !hidden {
			p.cells[name] = slices.Clone(cells)
		}
	}
	return p
}

// made counts a step that had so many records.
func (r *rerun) made(records int) {
	r.steps++
	if r.looks {
		r.places[len(r.places)-1].records = records
	}
}

func (r *rerun) stop(end int) {
	r.end = end
	r.made(1)
	if r.looks {
		last := r.places[len(r.places)-1]
		last.end, last.records = end, 0
		r.places = append(r.places, last)
	}
	panic(rerunStopped{})
}

func (r *rerun) proc(name string, values []int) {
	params := map[string]int{}
	for i, param := range r.source.procs[name] {
		params[param] = values[i]
	}
	r.params = append(r.params, params)
	begin := r.source.declared[name] + 1
	if !r.block(begin) {
		r.leave(r.closing(begin))
	}
	r.params = r.params[:len(r.params)-1]
}

func (r *rerun) leave(i int) {
	r.stand(i)
	if len(r.params) == 1 {
		r.stop(api.Halted)
	}
	r.made(1 + len(r.params[len(r.params)-1]))
}

// closing tells where the block that line i lies in has its else or end.
func (r *rerun) closing(i int) int {
	for {
		switch r.source.first(i) {
		case "if", "while":
			i = r.closing(i + 1)
			if r.source.first(i) == "else" {
				i = r.closing(i + 1)
			}
		case "else", "end":
			return i
		}
		i++
	}
}

// block runs the lines from i on, up to the else or end of their block; it
// answers whether the procedure was left.
func (r *rerun) block(i int) bool {
	end := r.closing(i)
	for ; i < end; i++ {
		switch r.source.first(i) {
		case "":
			continue
		case "return":
			r.leave(i)
			return true
		case "while":
			for r.line(i) != 0 {
				if r.block(i + 1) {
					return true
				}
			}
			i = r.closing(i + 1)
		case "if":
			value, then, other := r.line(i), i+1, r.closing(i+1)
			i = other
			if r.source.first(other) == "else" {
				i = r.closing(other + 1)
			}
			if value != 0 && r.block(then) || value == 0 && i != other && r.block(other+1) {
				return true
			}
		default:
			r.line(i)
		}
	}
	return false
}

// line makes the step of one line, and of what it calls; it answers the value
// that was worked out.
func (r *rerun) line(i int) int {
	r.stand(i)
	tokens := r.source.lines[i]
	rest := tokens[1:]
	value := 0
	switch tokens[0] {
	case "if", "while":
		value = r.value(rest)
	case "set":
		to := slices.Index(rest, "to")
		if to == 1 {
			r.set(rest[0], r.value(rest[to+1:]))
			break
		}
		number := r.value(rest[2 : to-1])
		value := r.value(rest[to+1:])
		r.reach(rest[0], number)
		r.arrays[rest[0]][number] = value
	case "print":
		value = r.value(rest)
		if len(r.output) == 50 {
			r.stop(api.Full)
		}
		r.output = append(r.output, value)
	case "read":
		if len(r.input) == 0 {
			r.stop(api.NoInput)
		}
		r.set(rest[0], r.input[0])
		r.input = r.input[1:]
	case "call":
		var values []int
		for _, part := range strings.Split(strings.Join(rest[1:], " "), ",") {
			if part != "" {
				values = append(values, r.value(strings.Fields(part)))
			}
		}
		if len(r.params) == 6 {
			r.stop(api.TooDeep)
		}
		r.made(1)
		r.calls = append(r.calls, i+1)
		r.proc(rest[0], values)
		r.calls = r.calls[:len(r.calls)-1]
		return 0
	}
	r.made(map[string]int{"if": 1, "while": 1, "set": 2, "print": 2, "read": 3}[tokens[0]])
	return value
}

func (r *rerun) set(name string, value int) {
	params := r.params[len(r.params)-1]
	if _, ok := params[name]; ok {
		params[name] = value
	} else {
		r.vars[name] = value
	}
}

func (r *rerun) reach(name string, number int) {
	if number < 0 || number >= len(r.arrays[name]) {
		r.stop(api.BadIndex)
	}
}

// value works out an expression.
func (r *rerun) value(tokens []string) int {
	for _, signs := range []string{"<=", "+-", "*/%"} {
		depth := 0
		for i := len(tokens) - 1; i > 0; i-- {
			switch tokens[i] {
			case ")", "]":
				depth++
			case "(", "[":
				depth--
			}
			if depth == 0 && strings.Contains(signs, tokens[i]) && !strings.Contains("+-*/%<=", tokens[i-1]) {
				left := r.value(tokens[:i])
				return r.combine(left, tokens[i], r.value(tokens[i+1:]))
			}
		}
	}
	last := len(tokens) - 1
	switch {
	case tokens[0] == "-":
		return r.combine(0, "-", r.value(tokens[1:]))
	case tokens[0] == "(":
		return r.value(tokens[1:last])
	case last > 0:
		number := r.value(tokens[2:last])
		r.reach(tokens[0], number)
		return r.arrays[tokens[0]][number]
	}
	if number, err := strconv.Atoi(tokens[0]); err == nil {
		return number
	}
	if value, ok := r.params[len(r.params)-1][tokens[0]]; ok {
		return value
	}
	return r.vars[tokens[0]]
}

func (r *rerun) combine(left int, sign string, right int) int {
	a, b, c := big.NewInt(int64(left)), big.NewInt(int64(right)), new(big.Int)
	switch sign {
	case "+":
		c.Add(a, b)
	case "-":
		c.Sub(a, b)
	case "*":
		c.Mul(a, b)
	case "<":
		c.SetBit(c, 0, uint(1-a.Cmp(b))/2)
	case "=":
		c.SetBit(c, 0, uint(1-a.CmpAbs(b)*a.CmpAbs(b)))
		if a.Sign() != b.Sign() {
			c.SetInt64(0)
		}
	default:
		if b.Sign() == 0 {
			r.stop(api.ByZero)
		}
		rest := new(big.Int)
		c.QuoRem(a, b, rest)
		if sign == "%" {
			c = rest
		}
	}
	// What is left of the 64 lowest bits, with the highest counted as less than 0.
	c.And(c, new(big.Int).SetUint64(1<<64-1))
	return int(c.Uint64())
}

// runs makes many sources that can be run, always the same.
type runs struct {
	random *rand.Rand
	names  []string
	arrays []string
	left   int
}

func (g *runs) pick(l ...string) string { return l[g.random.Intn(len(l))] }

func (g *runs) expr(size int) string {
	if size == 0 || g.random.Intn(4) == 0 {
		switch g.random.Intn(8) {
		case 0, 1:
			return g.pick("0", "1", "2", "3", "4", "7", "999999999", "00")
		case 2:
			return g.pick(g.arrays...) + "[" + g.pick("0", "0", "1", "1", "2", "3", "4") + "]"
		}
		return g.pick(g.names...)
	}
	switch g.random.Intn(10) {
	case 0:
		return "-" + g.expr(size-1)
	case 1:
		return "(" + g.expr(size-1) + ")"
	case 2:
		return g.pick(g.arrays...) + "[" + g.expr(size-1) + "]"
	case 3:
		return "(" + g.expr(size-1) + g.pick("<", "=") + g.expr(size-1) + ")"
	case 4:
		return g.expr(size-1) + g.pick("/", "%") + g.expr(size-1)
	}
	return g.expr(size-1) + g.pick("+", "-", "*") + g.expr(size-1)
}

func (g *runs) condition(size int) string {
	return g.pick(g.expr(size), g.expr(size)+"<"+g.expr(size), g.expr(size)+"="+g.expr(size))
}

func (g *runs) call(size int) string {
	name := g.pick("f", "f", "g", "g", "h", "main")
	switch name {
	case "f":
		return "call f " + g.expr(size) + "," + g.expr(size)
	case "g":
		return "call g " + g.expr(size)
	}
	return "call " + name
}

// line makes a line that is no longer than it may be.
func (g *runs) line() string {
	for size := g.random.Intn(4); ; size = max(0, size-1) {
		line := ""
		switch g.random.Intn(12) {
		case 0, 1, 2:
			line = "set " + g.pick(g.names...) + " to " + g.condition(size)
		case 3:
			line = "set " + g.pick(g.arrays...) + "[" + g.expr(size) + "] to " + g.expr(size)
		case 4, 5, 6:
			line = "print " + g.condition(size)
		case 7:
			line = "read " + g.pick(g.names...)
		case 8, 9:
			line = g.call(size)
		case 10:
			line = g.pick("", "return")
		case 11:
			line = "set " + g.pick(g.names...) + " to " + g.pick(g.names...) + " + 1"
		}
		if len(refTokens.FindAllString(line, -1)) <= 24 {
			return line
		}
	}
}

func (g *runs) head(word string) string {
	if g.random.Intn(6) == 0 {
		return word + " 1"
	}
	for size := g.random.Intn(3); ; size = max(0, size-1) {
		line := word + " " + g.condition(size)
		if len(refTokens.FindAllString(line, -1)) <= 24 {
			return line
		}
	}
}

func (g *runs) block(depth int) []string {
	var l []string
	for range 1 + g.random.Intn(4) {
		if g.left -= 4; g.left < 0 {
			return l
		}
		kind := g.random.Intn(8)
		switch {
		case kind == 0 && depth < 4:
			l = append(l, g.head("while"))
			l = append(l, g.block(depth+1)...)
			l = append(l, "end")
		case kind == 1 && depth < 4:
			l = append(l, g.head("if"))
			l = append(l, g.block(depth+1)...)
			l = append(l, "end")
		case kind == 2 && depth < 4:
			l = append(l, g.head("if"))
			l = append(l, g.block(depth+1)...)
			l = append(l, "else")
			l = append(l, g.block(depth+1)...)
			l = append(l, "end")
		case kind == 3 && depth < 2:
			name := g.pick(g.names...)
			l = append(l, "while "+name+" < "+g.pick("5", "60", "90"))
			l = append(l, g.block(depth+1)...)
			l = append(l, "set "+name+" to "+name+" + 1", "end")
		default:
			l = append(l, g.line())
		}
	}
	return l
}

// source makes a source in which parameters hide variables, arrays and
// procedures.
func (g *runs) source() string {
	procs := []struct {
		head          string
		names, arrays []string
	}{
		{"proc f p x", []string{"x", "y", "p"}, []string{"a", "b"}},
		{"proc g a", []string{"x", "y", "a"}, []string{"b"}},
		{"proc h", []string{"x", "y"}, []string{"a", "b"}},
		{"proc main", []string{"x", "y"}, []string{"a", "b"}},
	}
	pieces := [][]string{{"var x"}, {"var y"}, {"array a 4"}, {"array b 2"}, {""}}
	for _, proc := range procs {
		g.names, g.arrays, g.left = proc.names, proc.arrays, 60
		if proc.head != "proc main" {
			g.left = 20
		}
		pieces = append(pieces, slices.Concat([]string{proc.head}, g.block(0), []string{"end"}))
	}
	g.random.Shuffle(len(pieces), func(i, j int) { pieces[i], pieces[j] = pieces[j], pieces[i] })
	return strings.Join(slices.Concat(pieces...), "\n")
}

func (g *runs) input() []int {
	var input []int
	for range g.random.Intn(6) {
		switch g.random.Intn(3) {
		case 0:
			input = append(input, []int{least, least + 1, most, most - 1, -1, 0}[g.random.Intn(6)])
		case 1:
			input = append(input, int(g.random.Uint64()))
		case 2:
			input = append(input, g.random.Intn(9)-2)
		}
	}
	return input
}
