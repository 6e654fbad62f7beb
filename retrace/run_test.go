package retrace_test

import (
	"math"
	"math/rand"
	"slices"
	"strings"
	"testing"

	"retrace/api"
	"retrace/retrace"
)

const (
	least = math.MinInt
	most  = math.MaxInt
)

type ran struct {
	source string
	input  []int
	fuel   int
	end    int
	steps  int
	output []int
}

func checkRuns(t *testing.T, all []ran) {
	t.Helper()
	for _, c := range all {
		r, errno, at := retrace.Run(c.source, c.input, c.fuel)
		if errno != api.OK || at != 0 || r.End != c.end || r.Steps != c.steps || !slices.Equal(r.Output, c.output) {
			t.Errorf("P6: Run(%q, %v, %d) = %v, %d, line %d, want end %d, %d steps, %v", c.source, c.input, c.fuel, r, errno, at, c.end, c.steps, c.output)
		}
	}
}

// body gives a source with these lines in its procedure main, and something
// of each kind to use there.
func body(l ...string) string {
	return lines("var x", "var y", "array a 3", "array one 1", "array all 32", "proc f p", "print p", "end", "proc main", lines(l...), "end")
}

// printed checks what expressions are, in their order.
func printed(t *testing.T, input []int, exprs []string, want []int) {
	t.Helper()
	for i, expr := range exprs {
		source := body("read x", "read y", "print "+expr)
		checkRuns(t, []ran{{source, input, 1000, api.Halted, 4, want[i : i+1]}})
	}
}

func TestP6Example(t *testing.T) {
	whole := lines(example...)
	checkRuns(t, []ran{
		{whole, nil, 1000, api.Halted, 13, []int{40}},
		{whole, nil, 13, api.Halted, 13, []int{40}},
		{whole, nil, 12, api.Running, 12, []int{40}},
		{whole, nil, 11, api.Running, 11, nil},
		{whole, nil, 1, api.Running, 1, nil},
		{whole, nil, 0, api.Running, 0, nil},
		{with(5, "set x to x / (p - 2)"), nil, 1000, api.ByZero, 3, nil},
		{with(5, "read p"), nil, 1000, api.NoInput, 3, nil},
		{with(5, "call add p"), nil, 1000, api.TooDeep, 7, nil},
		{with(12, "set a[x] to 1"), nil, 1000, api.BadIndex, 11, nil},
	})
}

func TestP6Refused(t *testing.T) {
	whole := lines(example...)
	for _, c := range []struct {
		source string
		length int
		fuel   int
		errno  api.Errno
		at     int
	}{
		{whole, 0, 0, api.OK, 0},
		{whole, 0, 1000, api.OK, 0},
		{whole, 0, -1, api.ErrFuel, 0},
		{whole, 0, 1001, api.ErrFuel, 0},
		{whole, 0, least, api.ErrFuel, 0},
		{whole, 0, most, api.ErrFuel, 0},
		{whole, 100, 1000, api.OK, 0},
		{whole, 100, 1001, api.ErrFuel, 0},
		{whole, 101, 1000, api.ErrLong, 0},
		{whole, 101, -1, api.ErrLong, 0},
		{with(11, "?"), 101, -1, api.ErrLong, 0},
		{with(11, "?"), 100, -1, api.ErrForm, 11},
		{with(15, ""), 0, 1001, api.ErrNest, 17},
		{with(9, "call add"), 0, -1, api.ErrName, 9},
		{with(7, "proc men"), 0, -1, api.ErrName, 0},
		{strings.Repeat("\n", 100), 0, -1, api.ErrLong, 0},
	} {
		r, errno, at := retrace.Run(c.source, make([]int, c.length), c.fuel)
		if errno != c.errno || at != c.at {
			t.Errorf("P6: Run(%.200q) with %d numbers and fuel %d: %d, line %d, want %d, line %d", c.source, c.length, c.fuel, errno, at, c.errno, c.at)
		}
		if errno != api.OK && (r.End != 0 || r.Steps != 0 || len(r.Output) != 0) {
			t.Errorf("P1: Run(%.200q): %v beside the error %d", c.source, r, errno)
		}
	}
}

func TestP6Fuel(t *testing.T) {
	forever := body("while 1", "end")
	counted := body("while 1", "set x to x + 1", "if x % 100 = 0", "print x", "end", "end")
	checkRuns(t, []ran{
		{forever, nil, 0, api.Running, 0, nil},
		{forever, nil, 1, api.Running, 1, nil},
		{forever, nil, 1000, api.Running, 1000, nil},
		{counted, nil, 299, api.Running, 299, nil},
		{counted, nil, 300, api.Running, 300, nil},
		{counted, nil, 301, api.Running, 301, []int{100}},
		{counted, nil, 1000, api.Running, 1000, []int{100, 200, 300}},
		// The last step that there is fuel for may be the one that ends it.
		{body("print 1"), nil, 1, api.Running, 1, []int{1}},
		{body("print 1"), nil, 2, api.Halted, 2, []int{1}},
		{body("print 1"), nil, 3, api.Halted, 2, []int{1}},
		{body("print 1 / 0"), nil, 0, api.Running, 0, nil},
		{body("print 1 / 0"), nil, 1, api.ByZero, 1, nil},
	})
}

func TestP6Values(t *testing.T) {
	printed(t, []int{7, -2}, []string{
		"1 + 2 * 3", "(1 + 2) * 3", "7 - 3 - 2", "7 - (3 - 2)", "100 / 7 / 2", "100 / (7 / 2)", "100 % 7 * 3", "2 * 7 % 4", "2 * (7 % 4)",
		"-x + 1", "-(x + 1)", "- -x", "---y", "2 - -2", "-x * y", "x * -y", "-x / 2", "-x % 2", "x / y", "x % y", "-x / y", "-x % y", "0 / x", "0 % y", "x / 9", "x % 9", "y / 9", "y % 9",
		"x < y", "y < x", "x < x", "x = x", "x = y", "x + y = 5", "1 + 1 < 1 * 3", "-1 < 0", "(1 < 2) < (1 = 1)", "(3 < 2) = 0", "-(x = 7)", "(x < 8) + (y < 0)",
		"007", "000000000", "999999999", "999999999 * 999999999",
	}, []int{
		7, 9, 2, 6, 7, 33, 6, 2, 6,
		-6, -8, 7, 2, 4, 14, 14, -3, -1, -3, 1, 3, -1, 0, 0, 0, 7, 0, -2,
		0, 1, 0, 1, 0, 1, 1, 1, 0, 1, -1, 2,
		7, 0, 999999999, 999999998000000001,
	})
}

func TestP6WrapRound(t *testing.T) {
	printed(t, []int{least, -1}, []string{
		"x", "y", "-x", "x + y", "x - 1", "x + x", "x * y", "x * 2", "x * 3", "x / y", "x % y", "x / -y", "x / x", "y / x", "y % x", "x % 10", "x / 2", "0 - x", "x - x", "x < y", "y < x", "x = -x", "x - 1 < x",
	}, []int{
		least, -1, least, most, most, 0, least, 0, least, least, 0, least, 1, 0, -1, -8, least / 2, least, 0, 1, 0, 1, 0,
	})
	printed(t, []int{most, 1}, []string{
		"x", "x + y", "x + x", "x - -1", "-x", "-x - 1", "-x - 2", "x * 2", "x * x", "x * -y", "x / -y", "x % -y", "x % 10", "x < x + 1", "y + x < y",
	}, []int{
		most, least, -2, least, -most, least, most, -2, 1, -most, -most, 0, 7, 0, 1,
	})
	printed(t, []int{3037000500, 3037000499}, []string{"x * x", "y * y", "-x * x"}, []int{-9223372036709301616, 9223372030926249001, 9223372036709301616})
}

func TestP6Lines(t *testing.T) {
	checkRuns(t, []ran{
		{body(), nil, 1000, api.Halted, 1, nil},
		{body("", "  ", ""), nil, 1000, api.Halted, 1, nil},
		{body("return", "print 1"), nil, 1000, api.Halted, 1, nil},
		{body("print x", "print y", "print a[0]", "print all[31]"), nil, 1000, api.Halted, 5, []int{0, 0, 0, 0}},
		{body("set x to 5", "set y to x * x", "set x to x - 1", "print x", "print y"), nil, 1000, api.Halted, 6, []int{4, 25}},
		{body("set a[1] to 5", "set a[a[1] - 3] to a[1] + 1", "print a[0]", "print a[1]", "print a[2]", "print one[0]", "print all[1]"), nil, 1000, api.Halted, 8, []int{0, 5, 6, 0, 0}},
		{body("set a[0] to 1", "set one[0] to 2", "set all[0] to 3", "set all[31] to 4", "set a[2] to 5", "print a[0]", "print one[0]", "print all[0]", "print all[31]", "print a[2]"), nil, 1000, api.Halted, 11, []int{1, 2, 3, 4, 5}},
		{body("read x", "read y", "read x", "print x", "print y"), []int{3, 4, 5, 6}, 1000, api.Halted, 6, []int{5, 4}},
		{body("call f 1", "call f 2 + 3"), nil, 1000, api.Halted, 7, []int{1, 5}},
		// What is declared behind main, or between empty lines, is there all the same.
		{lines("", "proc main", "set x to 2", "call f x, a[0]", "end", "", "proc f p q", "print p - q", "end", "var x", "", "array a 1"), nil, 1000, api.Halted, 5, []int{2}},
	})
}

func TestP6Branches(t *testing.T) {
	both := func(value string) string { return body("if "+value, "print 1", "else", "print 2", "end", "print 3") }
	one := func(value string) string { return body("if "+value, "print 1", "end", "print 3") }
	checkRuns(t, []ran{
		{both("1"), nil, 1000, api.Halted, 4, []int{1, 3}},
		{both("0"), nil, 1000, api.Halted, 4, []int{2, 3}},
		{both("-1"), nil, 1000, api.Halted, 4, []int{1, 3}},
		{both("2"), nil, 1000, api.Halted, 4, []int{1, 3}},
		{one("1"), nil, 1000, api.Halted, 4, []int{1, 3}},
		{one("0"), nil, 1000, api.Halted, 3, []int{3}},
		{one("999999999 * 2"), nil, 1000, api.Halted, 4, []int{1, 3}},
		{body("if 1", "end"), nil, 1000, api.Halted, 2, nil},
		{body("if 0", "end"), nil, 1000, api.Halted, 2, nil},
		{body("if 1", "else", "end"), nil, 1000, api.Halted, 2, nil},
		{body("if 0", "else", "end"), nil, 1000, api.Halted, 2, nil},
		{body("if 1", "else", "print 2", "end"), nil, 1000, api.Halted, 2, nil},
		{body("if 0", "print 1", "else", "end"), nil, 1000, api.Halted, 2, nil},
		{body("if 1", "", "if 0", "print 1", "else", "", "print 2", "", "end", "", "else", "print 3", "end"), nil, 1000, api.Halted, 4, []int{2}},
		{body("if 0", "if 1", "print 1", "else", "print 2", "end", "else", "if 0", "print 3", "else", "print 4", "end", "end"), nil, 1000, api.Halted, 4, []int{4}},
		{body("if 0", "if 0", "else", "print 1", "end", "end", "print 2"), nil, 1000, api.Halted, 3, []int{2}},
		{body("if 1", "return", "else", "print 1", "end", "print 2"), nil, 1000, api.Halted, 2, nil},
	})
}

func TestP6Loops(t *testing.T) {
	checkRuns(t, []ran{
		{body("while 0", "print 1", "end", "print 2"), nil, 1000, api.Halted, 3, []int{2}},
		{body("while x < 3", "set x to x + 1", "print x", "end", "print 9"), nil, 1000, api.Halted, 12, []int{1, 2, 3, 9}},
		{body("while x + 2", "set x to x - 1", "print x", "end"), nil, 1000, api.Halted, 8, []int{-1, -2}},
		{body("while x < 2", "set x to x + 1", "set y to 0", "while y < 2", "set y to y + 1", "print 10 * x + y", "end", "end"), nil, 1000, api.Halted, 22, []int{11, 12, 21, 22}},
		// The end of a while at the end of an if, an else or another while.
		{body("while x < 2", "while x < 1", "set x to x + 1", "end", "set x to x + 1", "end"), nil, 1000, api.Halted, 7, nil},
		{body("while x < 2", "if x", "while x < 2", "set x to x + 1", "end", "else", "set x to 1", "end", "end", "print x"), nil, 1000, api.Halted, 11, []int{2}},
		{body("while x < 3", "set x to x + 1", "if x = 2", "print 20", "else", "print x", "if x = 3", "print 30", "end", "end", "end", "print 99"), nil, 1000, api.Halted, 18, []int{1, 20, 3, 30, 99}},
		{body("while 1", "set x to x + 1", "if x = 3", "return", "end", "end"), nil, 1000, api.Halted, 10, nil},
		{body("while x < 2", "", "set x to x + 1", "", "end", ""), nil, 1000, api.Halted, 6, nil},
	})
}

func TestP6Calls(t *testing.T) {
	checkRuns(t, []ran{
		// Calls that call, and come back behind themselves.
		{lines("proc f p", "print p", "call g p + 1, p + 2", "print p", "end", "proc g p q", "set p to p * q", "print p", "end", "proc main", "call f 1", "call f 5", "end"), nil, 1000, api.Halted, 17, []int{1, 6, 1, 5, 42, 5}},
		{lines("proc f p q r s", "print p", "print q", "print r", "print s", "end", "proc main", "call f 1, 2, 3, 4", "end"), nil, 1000, api.Halted, 7, []int{1, 2, 3, 4}},
		// Each frame has its own parameters.
		{lines("proc f p", "if p", "call f p - 1", "end", "print p", "end", "proc main", "call f 4", "end"), nil, 1000, api.Halted, 21, []int{0, 1, 2, 3, 4}},
		{lines("proc f p", "set p to p + 1", "print p", "end", "var x", "proc main", "set x to 3", "call f x", "call f x", "print x", "end"), nil, 1000, api.Halted, 11, []int{4, 4, 3}},
		{lines("proc f p q", "if p", "call f 0, p", "set q to q + p", "end", "print q", "end", "proc main", "call f 3, 4", "end"), nil, 1000, api.Halted, 10, []int{3, 7}},
		// The values of a call are those that hold in the frame that calls.
		{lines("proc f p q", "if p < 3", "call f q, p + 1", "end", "print p * 10 + q", "end", "proc main", "call f 1, 2", "end"), nil, 1000, api.Halted, 17, []int{33, 23, 22, 12}},
		// A return and an end drop one frame each.
		{lines("proc f p", "if p", "return", "end", "print 7", "end", "proc g", "call f 1", "print 1", "call f 0", "print 2", "return", "print 3", "end", "proc main", "call g", "print 4", "end"), nil, 1000, api.Halted, 13, []int{1, 7, 2, 4}},
		// A call that stands last in a block.
		{lines("proc f p", "if p", "call f p - 1", "else", "print 8", "end", "end", "proc main", "while x < 2", "set x to x + 1", "call f x", "end", "end", "var x"), nil, 1000, api.Halted, 23, []int{8, 8}},
		{lines("proc f", "end", "proc main", "call f", "call f", "end"), nil, 1000, api.Halted, 5, nil},
	})
}

func TestP6Names(t *testing.T) {
	checkRuns(t, []ran{
		// A parameter hides a variable, also when it is set and read.
		{lines("var x", "proc f x", "print x", "set x to x + 1", "print x", "read x", "print x", "end", "proc main", "set x to 5", "call f 8", "print x", "end"), []int{6}, 1000, api.Halted, 10, []int{8, 9, 6, 5}},
		// It hides none in the procedures that are called.
		{lines("var x", "proc f x", "call g", "print x", "end", "proc g", "set x to x + 1", "print x", "end", "proc main", "set x to 5", "call f 8", "print x", "end"), nil, 1000, api.Halted, 10, []int{6, 8, 6}},
		// It hides arrays and procedures, but not where one is called.
		{lines("array a 2", "proc f a f", "if f", "set f to f - 1", "call f a + 1, f", "end", "print a", "end", "proc main", "set a[0] to 9", "call f 1, 1", "print a[0]", "end"), nil, 1000, api.Halted, 12, []int{2, 1, 9}},
		// Two parameters, each read, and the variables beside them.
		{lines("proc f p x", "read p", "print p", "print x", "read x", "print p", "print x", "print y", "end", "var y", "var x", "proc main", "read y", "call f y, y + 1", "print x", "end"), []int{1, 20, 30}, 1000, api.Halted, 12, []int{20, 2, 20, 30, 1, 0}},
	})
}

// A trap is a step, and is told with what was printed ahead of it.
func TestP6Traps(t *testing.T) {
	trapped := func(line string, end int) ran {
		return ran{body("print 8", line, "print 9"), nil, 1000, end, 2, []int{8}}
	}
	checkRuns(t, []ran{
		trapped("print 1 / 0", api.ByZero),
		trapped("print 1 % 0", api.ByZero),
		trapped("print 0 / 0", api.ByZero),
		trapped("print 1 / x", api.ByZero),
		trapped("print 1 / (1 - 1)", api.ByZero),
		trapped("print -(1 / 0)", api.ByZero),
		trapped("set x to 1 / 0", api.ByZero),
		trapped("set a[1 / 0] to 1", api.ByZero),
		trapped("set a[0] to 1 / 0", api.ByZero),
		trapped("if 1 / 0\nend", api.ByZero),
		trapped("while 1 % 0\nend", api.ByZero),
		trapped("call f 1 / 0", api.ByZero),
		trapped("print a[3]", api.BadIndex),
		trapped("print a[-1]", api.BadIndex),
		trapped("print one[1]", api.BadIndex),
		trapped("print all[32]", api.BadIndex),
		trapped("print all[999999999 * 999999999]", api.BadIndex),
		trapped("print all[-999999999 * 999999999]", api.BadIndex),
		trapped("set x to a[3]", api.BadIndex),
		trapped("set a[3] to 1", api.BadIndex),
		trapped("set a[-1] to 1", api.BadIndex),
		trapped("set one[1] to 1", api.BadIndex),
		trapped("set all[32] to 1", api.BadIndex),
		trapped("set a[a[3]] to 1", api.BadIndex),
		trapped("set a[0] to a[3]", api.BadIndex),
		trapped("if a[3]\nend", api.BadIndex),
		trapped("while a[3]\nend", api.BadIndex),
		trapped("call f a[3]", api.BadIndex),
		trapped("read x", api.NoInput),
	})
	checkRuns(t, []ran{
		{body("read x", "print x", "read y", "print y"), []int{4}, 1000, api.NoInput, 3, []int{4}},
		{body("read x", "print x", "read y", "print y"), []int{4, 5}, 1000, api.Halted, 5, []int{4, 5}},
		{body("read x", "read y", "print a[x]", "set a[y] to 1"), []int{least, 0}, 1000, api.BadIndex, 3, nil},
		{body("read x", "read y", "print a[x]", "set a[y] to 1"), []int{2, most}, 1000, api.BadIndex, 4, []int{0}},
		{body("while 1", "read x", "set y to y + 1", "if y = 100", "print x", "end", "end"), rising(100), 1000, api.NoInput, 403, []int{99}},
	})
}

func rising(length int) []int {
	l := make([]int, length)
	for i := range l {
		l[i] = i
	}
	return l
}

// The first trap that is met counts.
func TestP6FirstTrap(t *testing.T) {
	trapped := func(line string, end int) ran { return ran{body(line), nil, 1000, end, 1, nil} }
	checkRuns(t, []ran{
		trapped("print a[3] + 1 / 0", api.BadIndex),
		trapped("print 1 / 0 + a[3]", api.ByZero),
		trapped("print a[3] / 0", api.BadIndex),
		trapped("print 1 / a[3]", api.BadIndex),
		trapped("print a[1 / 0]", api.ByZero),
		trapped("print a[a[3] / 0]", api.BadIndex),
		trapped("print a[3 + 1 / 0]", api.ByZero),
		trapped("print 0 * (1 / 0)", api.ByZero),
		trapped("print 1 / 0 < a[3]", api.ByZero),
		trapped("print a[3] < 1 / 0", api.BadIndex),
		trapped("print 1 + a[3] * (1 / 0)", api.BadIndex),
		trapped("print 2 * (1 % 0) + a[3]", api.ByZero),
		trapped("print -a[3] = 1 % 0", api.BadIndex),
		trapped("if a[3] + 1 / 0\nend", api.BadIndex),
		trapped("while 1 / 0 + a[3]\nend", api.ByZero),
		trapped("set x to 1 / 0 + a[3]", api.ByZero),
		trapped("set x to a[3] + 1 / 0", api.BadIndex),
		// Of a cell that is set: its number, the value, then whether it is there.
		trapped("set a[3] to 1 / 0", api.ByZero),
		trapped("set a[3] to a[3]", api.BadIndex),
		trapped("set a[1 / 0] to a[3]", api.ByZero),
		trapped("set a[a[3]] to 1 / 0", api.BadIndex),
		trapped("set a[-1] to a[0] / a[0]", api.ByZero),
		trapped("call f 1 / 0 + a[3]", api.ByZero),
		trapped("call f a[3] + 1 / 0", api.BadIndex),
	})
	two := func(values string) string {
		return lines("proc f p q", "end", "array a 3", "proc main", "call f "+values, "end")
	}
	checkRuns(t, []ran{
		{two("1 / 0, a[3]"), nil, 1000, api.ByZero, 1, nil},
		{two("a[3], 1 / 0"), nil, 1000, api.BadIndex, 1, nil},
		{two("1, 1 / 0"), nil, 1000, api.ByZero, 1, nil},
	})
}

func TestP6TooDeep(t *testing.T) {
	// down calls itself till the depth is one more than that, and is at these
	// lines then.
	down := func(depth string, l ...string) string {
		return lines("array a 3", "proc leaf", "end", "proc down n", "if n", "call down n - 1", "else", lines(l...), "end", "print n", "end", "proc main", "call down "+depth+" - 1", "end")
	}
	checkRuns(t, []ran{
		{body("call main"), nil, 1000, api.TooDeep, 6, nil},
		{body("call main"), nil, 6, api.TooDeep, 6, nil},
		{body("call main"), nil, 5, api.Running, 5, nil},
		{down("5"), nil, 1000, api.Halted, 21, []int{0, 1, 2, 3, 4}},
		{down("6"), nil, 1000, api.TooDeep, 11, nil},
		// At depth 6 other lines are no trap, and a frame that was dropped leaves its room.
		{down("5", "print 7", "set a[0] to 1"), nil, 1000, api.Halted, 23, []int{7, 0, 1, 2, 3, 4}},
		{down("4", "call leaf", "call leaf"), nil, 1000, api.Halted, 21, []int{0, 1, 2, 3}},
		{down("5", "call down 1 / 0"), nil, 1000, api.ByZero, 11, nil},
		{down("5", "call down a[3]"), nil, 1000, api.BadIndex, 11, nil},
		{down("5", "call down 0"), nil, 1000, api.TooDeep, 11, nil},
		{down("5", "call main"), nil, 1000, api.TooDeep, 11, nil},
		{lines("proc f", "print 1", "end", "proc main", "while 1", "call f", "end", "end"), nil, 40, api.Running, 40, slices.Repeat([]int{1}, 10)},
	})
}

func TestP6Full(t *testing.T) {
	full := func(l ...string) string {
		return body("while x < 50", "set x to x + 1", "print x", "end", lines(l...))
	}
	fifty := rising(51)[1:]
	checkRuns(t, []ran{
		{full(), nil, 1000, api.Halted, 152, fifty},
		{full("print 51"), nil, 149, api.Running, 149, fifty[:49]},
		{full("print 51"), nil, 150, api.Running, 150, fifty},
		{full("print 51"), nil, 151, api.Running, 151, fifty},
		{full("print 51"), nil, 152, api.Full, 152, fifty},
		{full("print 51"), nil, 1000, api.Full, 152, fifty},
		{full("call f 51"), nil, 1000, api.Full, 153, fifty},
		// The expression is worked out first.
		{full("print 1 / 0"), nil, 1000, api.ByZero, 152, fifty},
		{full("print a[3]"), nil, 1000, api.BadIndex, 152, fifty},
		// Other lines can still be run.
		{full("set x to 1", "read x", "if x", "end"), []int{1}, 1000, api.Halted, 155, fifty},
	})
}

func TestP6LongestLists(t *testing.T) {
	source := body("while x < 50", "set x to x + 1", "read y", "print y", "end", "while x < 100", "set x to x + 1", "read y", "end", "print 1")
	checkRuns(t, []ran{
		{source, rising(100), 1000, api.Full, 353, rising(50)},
		{source, rising(99), 1000, api.NoInput, 351, rising(50)},
	})
}

func TestP6AgainstReference(t *testing.T) {
	g := runs{random: rand.New(rand.NewSource(6))}
	met := map[int]int{}
	longest := 0
	for range 6000 {
		source, input := g.source(), g.input()
		fuel := []int{1000, 1000, 1000, g.random.Intn(60)}[g.random.Intn(4)]
		want := rerunOf(source, input, fuel)
		r, errno, at := retrace.Run(source, input, fuel)
		if errno != api.OK || at != 0 || r.End != want.End || r.Steps != want.Steps || !slices.Equal(r.Output, want.Output) {
			t.Fatalf("P6: Run(%q, %v, %d) = %v, %d, line %d, want %v", source, input, fuel, r, errno, at, want)
		}
		met[r.End]++
		if r.End != api.Running {
			longest = max(longest, r.Steps)
		}
	}
	if longest < 500 {
		t.Errorf("no run that ended was longer than %d steps", longest)
	}
	for end := api.Running; end <= api.Full; end++ {
		if met[end] < 100 {
			t.Errorf("the end %d was met only %d times", end, met[end])
		}
	}
}
