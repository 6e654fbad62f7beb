package retrace_test

import (
	"math/rand"
	"reflect"
	"slices"
	"strings"
	"testing"

	"retrace/api"
	"retrace/retrace"
)

var example = []string{
	"var x",
	"array a 3",
	"",
	"proc add p",
	"  set x to x + p",
	"end",
	"proc main",
	"  while x < 3",
	"    call add 2",
	"  end",
	"  if x = 4",
	"    set a[1] to x",
	"  else",
	"    print 0",
	"  end",
	"  print a[1] * 10",
	"end",
}

func lines(l ...string) string { return strings.Join(l, "\n") }

// with gives the example with another line n.
func with(n int, line string) string {
	l := slices.Clone(example)
	l[n-1] = line
	return lines(l...)
}

// inMain gives a source that has one line in its procedure main, line 2.
func inMain(line string) string { return lines("proc main", line, "end", "var x", "array a 3") }

// refused tells with which error and line a source is refused, and that all
// four calls say the same and nothing besides.
func refused(t *testing.T, source string) (api.Errno, int) {
	t.Helper()
	text, errno, at := retrace.Tidy(source)
	if errno != api.OK && text != "" {
		t.Errorf("P1: Tidy(%.200q): text %q beside the error %d", source, text, errno)
	}
	stops, e, n := retrace.Stops(source)
	if e != errno || n != at || e != api.OK && len(stops) != 0 {
		t.Errorf("P3: Stops(%.200q): %v, %d, line %d, but Tidy: %d, line %d", source, stops, e, n, errno, at)
	}
	result, e, n := retrace.Run(source, nil, 0)
	if e != errno || n != at || e != api.OK && !reflect.DeepEqual(result, api.Result{}) {
		t.Errorf("P3: Run(%.200q): %v, %d, line %d, but Tidy: %d, line %d", source, result, e, n, errno, at)
	}
	session, e, n := retrace.New(source, nil, api.MinCap)
	if e != errno || n != at || e != api.OK && session != nil {
		t.Errorf("P3: New(%.200q): %v, %d, line %d, but Tidy: %d, line %d", source, session, e, n, errno, at)
	}
	return errno, at
}

type refusal struct {
	source string
	errno  api.Errno
	at     int
}

func checkRefusals(t *testing.T, refusals []refusal) {
	t.Helper()
	for _, c := range refusals {
		if errno, at := refused(t, c.source); errno != c.errno || at != c.at {
			t.Errorf("P3: %.300q: %d, line %d, want %d, line %d", c.source, errno, at, c.errno, c.at)
		}
	}
}

func TestP3Long(t *testing.T) {
	least := "proc main\nend"
	checkRefusals(t, []refusal{
		{least + strings.Repeat(" ", 40000-len(least)), api.OK, 0},
		{least + strings.Repeat(" ", 40001-len(least)), api.ErrLong, 0},
		{least + strings.Repeat("\n", 98), api.OK, 0},
		{least + strings.Repeat("\n", 99), api.ErrLong, 0},
		{"proc main" + strings.Repeat("\nprint 1", 98) + "\nend", api.OK, 0},
		{strings.Repeat("?", 40000), api.ErrForm, 1},
		{strings.Repeat("?", 40001), api.ErrLong, 0},
		{strings.Repeat("?\n", 99), api.ErrForm, 1},
		{strings.Repeat("?\n", 100), api.ErrLong, 0},
	})
}

func TestP3LongInput(t *testing.T) {
	for _, c := range []struct {
		source string
		length int
		errno  api.Errno
		at     int
	}{
		{lines(example...), 0, api.OK, 0},
		{lines(example...), 100, api.OK, 0},
		{lines(example...), 101, api.ErrLong, 0},
		{"?", 100, api.ErrForm, 1},
		{"?", 101, api.ErrLong, 0},
		{"var x\nend", 101, api.ErrLong, 0},
		{"", 101, api.ErrLong, 0},
	} {
		input := make([]int, c.length)
		result, errno, at := retrace.Run(c.source, input, 0)
		if errno != c.errno || at != c.at || errno != api.OK && !reflect.DeepEqual(result, api.Result{}) {
			t.Errorf("P3: Run(%q) with %d numbers: %v, %d, line %d", c.source, c.length, result, errno, at)
		}
		session, errno, at := retrace.New(c.source, input, api.MinCap)
		if errno != c.errno || at != c.at || errno != api.OK && session != nil {
			t.Errorf("P3: New(%q) with %d numbers: %v, %d, line %d", c.source, c.length, session, errno, at)
		}
	}
}

func TestP3FormOfTokens(t *testing.T) {
	checkRefusals(t, []refusal{
		{"var abcdefgh\nproc main\nend", api.OK, 0},
		{"var abcdefghi\nproc main\nend", api.ErrForm, 1},
		{inMain("print 123456789"), api.OK, 0},
		{inMain("print 000000000"), api.OK, 0},
		{inMain("print 1234567890"), api.ErrForm, 2},
		{inMain("print 0000000001"), api.ErrForm, 2},
		{inMain("print " + strings.Repeat("-", 22) + "1"), api.OK, 0},
		{inMain("print " + strings.Repeat("-", 23) + "1"), api.ErrForm, 2},
		{inMain("print 1" + strings.Repeat("+1", 11)), api.OK, 0},
		{inMain("print 1" + strings.Repeat("+1", 12)), api.ErrForm, 2},
		{inMain("print " + strings.Repeat("(", 11) + "1" + strings.Repeat(")", 11)), api.OK, 0},
		{inMain("print " + strings.Repeat("(", 23)), api.ErrForm, 2},
		{inMain("print 1\r"), api.ErrForm, 2},
		{inMain("print\t1"), api.ErrForm, 2},
		{inMain("print 1 > 2"), api.ErrForm, 2},
		{inMain("Print 1"), api.ErrForm, 2},
		{inMain("print 1 # one"), api.ErrForm, 2},
		{with(3, "\x00"), api.ErrForm, 3},
		{with(3, "\xc3\xa9"), api.ErrForm, 3},
		{with(17, "end;"), api.ErrForm, 17},
	})
}

func TestP3FormOfLines(t *testing.T) {
	checkRefusals(t, []refusal{
		{with(11, "  if x == 4"), api.ErrForm, 11},
		{with(2, "array a 1"), api.OK, 0},
		{with(2, "array a 32"), api.OK, 0},
		{with(2, "array a 0"), api.ErrForm, 2},
		{with(2, "array a 33"), api.ErrForm, 2},
		{with(2, "array a"), api.ErrForm, 2},
		{with(4, "proc add p q r s"), api.ErrName, 9},
		{with(4, "proc add p q r s u"), api.ErrForm, 4},
		{with(4, "proc"), api.ErrForm, 4},
		{with(1, "var"), api.ErrForm, 1},
		{with(1, "var print"), api.ErrForm, 1},
		{with(1, "x"), api.ErrForm, 1},
		{with(3, "to"), api.ErrForm, 3},
		{with(17, "end end"), api.ErrForm, 17},
		{with(13, "else x"), api.ErrForm, 13},
		{inMain("return x"), api.ErrForm, 2},
		{inMain("if"), api.ErrForm, 2},
		{inMain("while"), api.ErrForm, 2},
		{inMain("set x to"), api.ErrForm, 2},
		{inMain("set x[1 to 1"), api.ErrForm, 2},
		{inMain("read a[1]"), api.ErrForm, 2},
		{inMain("read"), api.ErrForm, 2},
		{inMain("call"), api.ErrForm, 2},
		{inMain("call main 1,"), api.ErrForm, 2},
		{inMain("call main 1 2"), api.ErrForm, 2},
		{inMain("print x = 1 < 2"), api.ErrForm, 2},
		{inMain("print (x = 1) < 2"), api.OK, 0},
	})
}

func TestP3Nest(t *testing.T) {
	open := make([]string, 0, 100)
	open = append(open, "proc main")
	for range 49 {
		open = append(open, "while 0")
	}
	deepest := slices.Concat(open, slices.Repeat([]string{"end"}, 50))
	checkRefusals(t, []refusal{
		{lines(deepest...), api.OK, 0},
		{lines(deepest[:99]...), api.ErrNest, 99},
		{with(8, "var y"), api.ErrNest, 8},
		{with(8, "array y 1"), api.ErrNest, 8},
		{with(8, "proc y"), api.ErrNest, 8},
		{with(9, "var y"), api.ErrNest, 9},
		{with(3, "end"), api.ErrNest, 3},
		{with(3, "else"), api.ErrNest, 3},
		{with(3, "if 1"), api.ErrNest, 3},
		{with(3, "while 1"), api.ErrNest, 3},
		{with(3, "set x to 1"), api.ErrNest, 3},
		{with(3, "set a[0] to 1"), api.ErrNest, 3},
		{with(3, "print 1"), api.ErrNest, 3},
		{with(3, "read x"), api.ErrNest, 3},
		{with(3, "call main"), api.ErrNest, 3},
		{with(3, "return"), api.ErrNest, 3},
		{with(3, "   "), api.OK, 0},
		{with(5, "else"), api.ErrNest, 5},
		{with(9, "else"), api.ErrNest, 9},
		{with(14, "else"), api.ErrNest, 14},
		{with(16, "else"), api.ErrNest, 16},
		{with(14, "while 1\nelse\nend"), api.ErrNest, 15},
		{with(14, "if 1\nelse\nend"), api.OK, 0},
		{with(14, "if 1\nelse\nelse\nend"), api.ErrNest, 16},
		{with(12, "if 1\nelse\nend"), api.OK, 0},
		{with(14, "if 1\nend\nelse"), api.ErrNest, 16},
		{with(15, ""), api.ErrNest, 17},
		{with(15, "") + "\n", api.ErrNest, 18},
		{with(15, "") + "\n\n  ", api.ErrNest, 19},
		{lines(example...) + "\nend", api.ErrNest, 18},
		{lines(example...) + "\n", api.OK, 0},
		{"proc main", api.ErrNest, 1},
		{"proc main\nend\nproc f", api.ErrNest, 3},
	})
}

func TestP3NamesDeclared(t *testing.T) {
	checkRefusals(t, []refusal{
		{with(3, "var x"), api.ErrName, 3},
		{with(3, "array x 2"), api.ErrName, 3},
		{with(3, "var a"), api.ErrName, 3},
		{with(3, "var add"), api.ErrName, 4},
		{with(3, "var main"), api.ErrName, 7},
		{with(3, "var p"), api.OK, 0},
		{with(7, "proc add"), api.ErrName, 7},
		{with(7, "proc x"), api.ErrName, 7},
		{with(7, "proc men"), api.ErrName, 0},
		{with(7, "proc main p"), api.ErrName, 7},
		{with(4, "proc add p p"), api.ErrName, 4},
		{"proc f p q r p\nend\nproc main\nend", api.ErrName, 1},
		{"proc f p q r s\nend\nproc main\nend", api.OK, 0},
		{"proc f q r s p p\nend\nproc main\nend", api.ErrForm, 1},
		{"proc f f\nend\nproc main\nend", api.OK, 0},
		{"proc f main x\nend\nproc main\nend\nvar x", api.OK, 0},
		{"proc f p\nend\nproc g p\nend\nproc main\nend", api.OK, 0},
		{"", api.ErrName, 0},
		{"\n\n", api.ErrName, 0},
		{"var main", api.ErrName, 0},
		{"array main 1", api.ErrName, 0},
		{"proc f main\nend", api.ErrName, 0},
		{"proc main\nend\nproc main\nend", api.ErrName, 3},
	})
}

func TestP3NamesUsed(t *testing.T) {
	for _, form := range []string{"print N", "if N\nend", "while N\nend", "set x to N", "set a[N] to 1", "set a[0] to N", "call f N, 1", "call f 1, N", "print -(1+N)", "print a[N]", "print a[a[N]]", "print 1 < N", "read N", "set N to 1"} {
		for name, fits := range map[string]bool{"x": true, "p": true, "a": false, "f": false, "main": false, "y": false, "q": false} {
			source := lines("var x", "array a 3", "proc f p s", strings.Replace(form, "N", name, 1), "end", "proc main", "end", "proc g q", "end")
			want := refusal{source, api.OK, 0}
			if !fits {
				want = refusal{source, api.ErrName, 4}
			}
			checkRefusals(t, []refusal{want})
		}
	}
	for _, form := range []string{"print N[0]", "print 1+N[0]", "print a[N[0]]", "set N[0] to 1", "set x to N[0]", "call f N[0]"} {
		for name, fits := range map[string]bool{"a": true, "x": false, "p": false, "f": false, "b": false, "y": false} {
			source := lines("proc f b", strings.Replace(form, "N", name, 1), "end", "proc main", "end", "array b 1", "array a 3", "var x")
			want := refusal{source, api.OK, 0}
			if !fits {
				want = refusal{source, api.ErrName, 2}
			}
			checkRefusals(t, []refusal{want})
		}
	}
}

func TestP3NamesHiddenAndLate(t *testing.T) {
	checkRefusals(t, []refusal{
		// Of several declarations the first counts, and the second is at fault.
		{"proc main\nprint x\nend\nvar x\narray x 1", api.ErrName, 5},
		{"proc main\nprint x\nend\narray x 1\nvar x", api.ErrName, 2},
		{"proc main\ncall f\nend\nproc f\nend\nvar f", api.ErrName, 6},
		{"proc main\ncall f\nend\nvar f\nproc f\nend", api.ErrName, 2},
		{"proc main\ncall f 1\nend\nproc f\nend\nproc f p\nend", api.ErrName, 2},
		// A parameter hides what else has its name, but no procedure that is called.
		{"array a 1\nproc f a\nset a to 1\nread a\nprint a\nend\nproc main\nend", api.OK, 0},
		{"array a 1\nproc f a\nprint a[0]\nend\nproc main\nend", api.ErrName, 3},
		{"array a 1\nproc f a\nend\nproc main\nprint a[0]\nend", api.OK, 0},
		{"proc f f\ncall f f\nend\nproc main\ncall main\nend", api.OK, 0},
		{"proc f p\ncall p\nend\nproc main\nend", api.ErrName, 2},
		{"proc f p\nend\nproc main\nprint p\nend", api.ErrName, 4},
	})
}

func TestP3Calls(t *testing.T) {
	for params := range 5 {
		for given := range 7 {
			call := "call f" + strings.TrimSuffix(strings.Repeat(" 1,", given), ",")
			source := lines("proc main", call, "end", "proc f"+"  p q r s"[:1+2*params], "end")
			want := refusal{source, api.OK, 0}
			if params != given {
				want = refusal{source, api.ErrName, 2}
			}
			checkRefusals(t, []refusal{want})
		}
	}
	checkRefusals(t, []refusal{
		{inMain("call x"), api.ErrName, 2},
		{inMain("call a"), api.ErrName, 2},
		{inMain("call g"), api.ErrName, 2},
		{inMain("call main"), api.OK, 0},
		{inMain("call main x"), api.ErrName, 2},
		{with(9, "call add"), api.ErrName, 9},
		{with(9, "call add 1, 2"), api.ErrName, 9},
		{with(9, "call add a[(1)]"), api.OK, 0},
	})
}

func TestP3Order(t *testing.T) {
	checkRefusals(t, []refusal{
		{"print y\n?", api.ErrForm, 2},
		{"var x\nvar x\nend", api.ErrNest, 3},
		{"var x\nvar x\nproc main", api.ErrNest, 3},
		{"var x\nvar x\nend\n?", api.ErrForm, 4},
		{"?\n?", api.ErrForm, 1},
		{"end\nend", api.ErrNest, 1},
		{"var x\nvar x\nvar x", api.ErrName, 2},
		{"var x\nproc f\nprint y\nend", api.ErrName, 3},
	})
}

// sources gives many sources, some at fault and some not, always the same.
func sources(count int) []string {
	pieces := strings.Fields("var array proc end else if while set to print read call return x x x a a y p q f main 0 1 2 32 33 007 + - * / % < = ( ) [ ] , abcdefgh abcdefghi 123456789 1234567890 ?")
	good := []string{
		"set x to x + p", "set a[x] to -a[0]", "print a[a[1]] % 2", "read x", "read p", "call f x, 1", "call f p, q", "call main", "return", "",
		"if x\nend", "if x < 1\nprint 1\nelse\nreturn\nend", "while (x = a[2])\nset p to 1\nend", "if 1\nif 2\nelse\nend\nend", "call p", "print y",
	}
	heads := []string{"var x", "array a 3", "proc f p q", "proc p", "proc main", "proc f x a", "var y", "array y 2", "var p", "", "  "}
	random := rand.New(rand.NewSource(1))
	pick := func(l []string) string { return l[random.Intn(len(l))] }
	var all []string
	for range count {
		l := []string{"var x", "array a 3", "proc f p q"}
		for range random.Intn(4) {
			l = append(l, strings.Split(pick(good), "\n")...)
		}
		l = append(l, "end", "proc main", "end")
		for range random.Intn(4) {
			line := pick(slices.Concat(good, heads, heads))
			l = slices.Insert(l, random.Intn(len(l)+1), strings.Split(line, "\n")...)
		}
		for range random.Intn(3) {
			i := random.Intn(len(l))
			words := strings.Split(l[i], " ")
			words[random.Intn(len(words))] = pick(pieces)
			l[i] = strings.Join(words, strings.Repeat(" ", random.Intn(3)))
		}
		if random.Intn(6) == 0 {
			i := random.Intn(len(l))
			l = slices.Delete(l, i, i+1)
		}
		all = append(all, strings.Join(l, "\n"))
	}
	return all
}

func TestP3P4P5AgainstReference(t *testing.T) {
	met := map[api.Errno]int{}
	for _, source := range sources(20000) {
		r := reference{}
		wantErrno, wantAt := r.check(source)
		errno, at := refused(t, source)
		met[errno]++
		if errno != wantErrno || at != wantAt {
			t.Fatalf("P3: %q: %d, line %d, want %d, line %d", source, errno, at, wantErrno, wantAt)
		}
		if errno != api.OK {
			continue
		}
		text, _, _ := retrace.Tidy(source)
		if want := r.tidy(); text != want {
			t.Fatalf("P4: %q: %q, want %q", source, text, want)
		}
		slices.Sort(r.stops)
		stops, _, _ := retrace.Stops(source)
		if !slices.Equal(stops, r.stops) {
			t.Fatalf("P5: %q: %v, want %v", source, stops, r.stops)
		}
	}
	for _, errno := range []api.Errno{api.OK, api.ErrForm, api.ErrNest, api.ErrName} {
		if met[errno] < 500 {
			t.Errorf("the error %d was met only %d times", errno, met[errno])
		}
	}
}

func TestP4(t *testing.T) {
	for _, c := range []struct{ source, want string }{
		{lines(example...), lines("var x", "array a 3", "", "proc add p", "  set x to x + p", "end", "proc main", "  while x < 3", "    call add 2", "  end", "  if x = 4", "    set a [ 1 ] to x", "  else", "    print 0", "  end", "  print a [ 1 ] * 10", "end")},
		{"proc main\nend", "proc main\nend"},
		{"   \n\n   proc     main\nend   \n  ", "\n\nproc main\nend\n"},
		{"proc main\n   \nif 1\n \nend\nend", "proc main\n\n  if 1\n\n  end\nend"},
		{"array a007\nproc main\nset a[0]to-(007)\nend", "array a 007\nproc main\n  set a [ 0 ] to - ( 007 )\nend"},
		{"proc f p q\nend\nproc main\ncall f 1,2\nend", "proc f p q\nend\nproc main\n  call f 1 , 2\nend"},
		{"proc main\nif 1\nwhile 2\nif 3\nelse\nread x\nend\nend\nelse\nreturn\nend\nend\nvar x", "proc main\n  if 1\n    while 2\n      if 3\n      else\n        read x\n      end\n    end\n  else\n    return\n  end\nend\nvar x"},
	} {
		text, errno, at := retrace.Tidy(c.source)
		if text != c.want || errno != api.OK || at != 0 {
			t.Errorf("P4: Tidy(%q) = %q, %d, line %d, want %q", c.source, text, errno, at, c.want)
		}
	}
}

// What is tidied is as long as can be, and still not refused.
func TestP4Longest(t *testing.T) {
	line := "print abcdefgh" + strings.Repeat(" + 123456789", 11)
	l := []string{"proc main"}
	l = append(l, slices.Repeat([]string{"while abcdefgh"}, 33)...)
	l = append(l, slices.Repeat([]string{line}, 31)...)
	l = append(l, slices.Repeat([]string{"end"}, 34)...)
	l = append(l, "var abcdefgh")
	source := lines(l...)
	text, errno, at := retrace.Tidy(source)
	if errno != api.OK || at != 0 || strings.Count(text, "\n") != 99 {
		t.Fatalf("P4: %d, line %d, %d newlines", errno, at, strings.Count(text, "\n"))
	}
	if want := strings.Repeat("  ", 34) + line; strings.Split(text, "\n")[40] != want {
		t.Errorf("P4: line 41: %q", strings.Split(text, "\n")[40])
	}
	if errno, at := refused(t, text); errno != api.OK || at != 0 {
		t.Errorf("P4: tidied: %d, line %d", errno, at)
	}
}

func TestP4Again(t *testing.T) {
	for _, source := range sources(3000) {
		text, errno, _ := retrace.Tidy(source)
		if errno != api.OK {
			continue
		}
		again, errno, at := retrace.Tidy(text)
		if errno != api.OK || at != 0 || again != text {
			t.Fatalf("P4: Tidy(%q) = %q, %d, line %d", text, again, errno, at)
		}
		if strings.Count(text, "\n") != strings.Count(source, "\n") {
			t.Fatalf("P4: other lines: %q", text)
		}
		before, _, _ := retrace.Stops(source)
		behind, _, _ := retrace.Stops(text)
		if !slices.Equal(before, behind) {
			t.Fatalf("P5: %q: %v, tidied %v", source, before, behind)
		}
	}
}

func TestP5(t *testing.T) {
	for _, c := range []struct {
		source string
		want   []int
	}{
		{lines(example...), []int{5, 6, 8, 9, 11, 12, 14, 16, 17}},
		{"proc main\nend", []int{2}},
		{"\nproc main\n\nend\n", []int{4}},
		{"var x\narray a 2\nproc main\nset x to 1\nset a[0] to 1\nprint x\nread x\nif x\nelse\nend\nwhile x\nend\ncall main\nreturn\nend", []int{4, 5, 6, 7, 8, 11, 13, 14, 15}},
		{"proc f\nend\nproc main\nif 1\nif 1\nend\nelse\nwhile 1\nend\nend\nend", []int{2, 4, 5, 8, 11}},
	} {
		stops, errno, at := retrace.Stops(c.source)
		if !slices.Equal(stops, c.want) || errno != api.OK || at != 0 {
			t.Errorf("P5: Stops(%q) = %v, %d, line %d, want %v", c.source, stops, errno, at, c.want)
		}
	}
	all := "proc main" + strings.Repeat("\nreturn", 98) + "\nend"
	if stops, _, _ := retrace.Stops(all); len(stops) != 99 || stops[0] != 2 || stops[98] != 100 {
		t.Errorf("P5: of 100 lines: %v", stops)
	}
}
