package parse

import (
	"reflect"
	"strconv"
	"strings"
	"testing"

	"retrace/scan"
)

// line reads a line from its text.
func line(t *testing.T, text string) (Form, bool) {
	t.Helper()
	tokens, ok := scan.Tokens(text)
	if !ok {
		t.Fatalf("no tokens: %q", text)
	}
	return Line(tokens)
}

// work writes an expression down as the order of its work.
func work(e Expr) string {
	signs := []string{Negate: "neg", Add: "+", Subtract: "-", Multiply: "*", Divide: "/", Remainder: "%", Less: "<", Equal: "="}
	var words []string
	for _, op := range e.Ops {
		switch op.Code {
		case Constant:
			words = append(words, strconv.Itoa(op.Number))
		case Load:
			words = append(words, op.Name)
		case LoadCell:
			words = append(words, op.Name+"[]")
		default:
			words = append(words, signs[op.Code])
		}
	}
	return strings.Join(words, " ")
}

func TestKinds(t *testing.T) {
	for _, c := range []struct {
		text   string
		kind   int
		name   string
		cells  int
		params []string
		index  string
		values []string
	}{
		{text: "", kind: Empty},
		{text: "var x", kind: Var, name: "x"},
		{text: "array a 1", kind: Array, name: "a", cells: 1},
		{text: "array a32", kind: Array, name: "a", cells: 32},
		{text: "array a 000000007", kind: Array, name: "a", cells: 7},
		{text: "proc main", kind: Proc, name: "main"},
		{text: "proc f p q r s", kind: Proc, name: "f", params: []string{"p", "q", "r", "s"}},
		{text: "proc f p p", kind: Proc, name: "f", params: []string{"p", "p"}},
		{text: "end", kind: End},
		{text: "if 1", kind: If, values: []string{"1"}},
		{text: "else", kind: Else},
		{text: "while x < 3", kind: While, values: []string{"x 3 <"}},
		{text: "set x to 1", kind: SetName, name: "x", values: []string{"1"}},
		{text: "set a[i+1] to a[i]", kind: SetCell, name: "a", index: "i 1 +", values: []string{"i a[]"}},
		{text: "print(1)", kind: Print, values: []string{"1"}},
		{text: "read x", kind: Read, name: "x"},
		{text: "call f", kind: Call, name: "f"},
		{text: "call f -1", kind: Call, name: "f", values: []string{"1 neg"}},
		{text: "call f(1),x,2*3", kind: Call, name: "f", values: []string{"1", "x", "2 3 *"}},
		{text: "call f 1,2,3,4,5,6", kind: Call, name: "f", values: []string{"1", "2", "3", "4", "5", "6"}},
		{text: "return", kind: Return},
	} {
		f, ok := line(t, c.text)
		var values []string
		for _, v := range f.Values {
			values = append(values, work(v))
		}
		if !ok || f.Kind != c.kind || f.Name != c.name || f.Cells != c.cells || !reflect.DeepEqual(f.Params, c.params) || work(f.Index) != c.index || !reflect.DeepEqual(values, c.values) {
			t.Errorf("%q: %+v, %v", c.text, f, ok)
		}
	}
}

func TestNoLine(t *testing.T) {
	for _, text := range []string{
		"x", "1", "(", "to", "to x", "main", "let x", "varx",
		"var", "var x y", "var 1", "var var", "var x 1", "var (x)", "var -x",
		"array", "array a", "array a 0", "array a 33", "array a 999999999", "array a 3 3", "array a x", "array 3", "array a [3]", "array a -1", "array to 3", "array a 1+1",
		"proc", "proc 1", "proc end", "proc f 1", "proc f p, q", "proc f p q r s u", "proc f to", "proc f (p)", "proc f p 1",
		"end if", "end 1", "else 1", "else if 1", "return 1", "return x",
		"if", "if 1 2", "if if", "if 1 = 1 = 1", "while", "while 1 <", "while < 1", "while 1 < 2 < 3",
		"set", "set x", "set x to", "set x 2", "set to 2", "set x = 2", "set 1 to 2", "set x to 1 2", "set x to to", "set to to 1",
		"set a[ to 1", "set a[] to 1", "set a[1 to 1", "set a 1] to 1", "set a[1] 1", "set a[1] to", "set a[1][1] to 1", "set (x) to 1", "set a[1]] to 1",
		"print", "print 1,2", "print ,", "print )", "print x y", "print print",
		"read", "read 1", "read x y", "read x[0]", "read x, y", "read read",
		"call", "call 1", "call f,", "call f 1,", "call f , 1", "call f 1 2", "call f 1,,2", "call f [1]", "call f )", "call call", "call f ()", "call f 1, to",
	} {
		if f, ok := line(t, text); ok || !reflect.DeepEqual(f, Form{}) {
			t.Errorf("%q: %+v, %v", text, f, ok)
		}
	}
}

func TestReservedWords(t *testing.T) {
	words := strings.Fields("var array proc end else if while set to print read call return")
	if len(words) != 13 {
		t.Fatal(words)
	}
	for _, form := range []string{"var W", "array W 1", "proc W", "proc f W", "set W to 1", "set W[1] to 1", "set x to W", "print W", "print W[1]", "print a[W]", "read W", "call W", "call f W", "if W", "while W"} {
		for _, word := range words {
			if _, ok := line(t, strings.Replace(form, "W", word, 1)); ok {
				t.Errorf("%q with %q", form, word)
			}
		}
		for _, name := range []string{"main", "x", "en", "ends", "zzzzzzzz"} {
			if _, ok := line(t, strings.Replace(form, "W", name, 1)); !ok {
				t.Errorf("%q with %q", form, name)
			}
		}
	}
}

func TestOrderOfWork(t *testing.T) {
	for text, want := range map[string]string{
		"1+2-3+4":           "1 2 + 3 - 4 +",
		"8/4*2%3":           "8 4 / 2 * 3 %",
		"1+2*3":             "1 2 3 * +",
		"1*2+3":             "1 2 * 3 +",
		"(1+2)*3":           "1 2 + 3 *",
		"1-(2-3)":           "1 2 3 - -",
		"-x*y":              "x neg y *",
		"- - 1":             "1 neg neg",
		"1 - -1":            "1 1 neg -",
		"-(x+1)":            "x 1 + neg",
		"x+1<y*2":           "x 1 + y 2 * <",
		"1=2-1":             "1 2 1 - =",
		"(1<2)<3":           "1 2 < 3 <",
		"1=(2=3)":           "1 2 3 = =",
		"a[1<2]+b[a[x]]":    "1 2 < a[] x a[] b[] +",
		"a[0]/a[1]":         "0 a[] 1 a[] /",
		"123456789":         "123456789",
		"000000000":         "0",
		"-a[-1]":            "1 neg a[] neg",
		"((((((((1))))))))": "1",
	} {
		f, ok := line(t, "print "+text)
		if !ok || len(f.Values) != 1 || work(f.Values[0]) != want {
			t.Errorf("%q: %+v, %v, want %q", text, f, ok, want)
		}
	}
}

// The recognizer below splits a whole expression at each of its signs, so it
// shares nothing with how a line is read.

type splitter struct{ known map[string]bool }

func (s splitter) is(kind byte, text string) bool {
	key := string(kind) + text
	if answer, ok := s.known[key]; ok {
		return answer
	}
	answer := false
	switch kind {
	case 'E':
		answer = s.is('S', text) || s.split('S', "<=", 'S', text)
	case 'S':
		answer = s.is('T', text) || s.split('S', "+-", 'T', text)
	case 'T':
		answer = s.is('F', text) || s.split('T', "*/%", 'F', text)
	case 'F':
		answer = text == "1" || text == "x" || s.inside("-", 'F', "", text) || s.inside("(", 'E', ")", text) || s.inside("x[", 'E', "]", text)
	}
	s.known[key] = answer
	return answer
}

func (s splitter) split(left byte, signs string, right byte, text string) bool {
	for i := range len(text) {
		if strings.IndexByte(signs, text[i]) >= 0 && s.is(left, text[:i]) && s.is(right, text[i+1:]) {
			return true
		}
	}
	return false
}

func (s splitter) inside(before string, kind byte, behind string, text string) bool {
	return len(text) >= len(before)+len(behind) && strings.HasPrefix(text, before) && strings.HasSuffix(text, behind) && s.is(kind, text[len(before):len(text)-len(behind)])
}

func TestAllShortExpressions(t *testing.T) {
	s := splitter{map[string]bool{}}
	texts := []string{""}
	found := 0
	for range 6 {
		var longer []string
		for _, text := range texts {
			for _, token := range "1x-*<()[]" {
				longer = append(longer, text+string(token))
			}
		}
		texts = longer
		for _, text := range texts {
			// Digits side by side, and letters, would be one token.
			_, ok := line(t, "print "+strings.Join(strings.Split(text, ""), " "))
			if want := s.is('E', text); ok != want {
				t.Fatalf("print %s: %v", text, ok)
			}
			if ok {
				found++
			}
		}
	}
	if found < 600 {
		t.Errorf("only %d expressions", found)
	}
}
