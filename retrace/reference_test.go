package retrace_test

import (
	"regexp"
	"strings"

	"retrace/api"
)

// A second telling of P3, P4 and P5, made from the words of the document and
// by other means than the program's: patterns, splitting and recursion. The
// tests hold the program against it.

type reference struct {
	lines    [][]string
	arrays   map[string]bool
	vars     map[string]bool
	procs    map[string][]string
	declared map[string]int
	depth    []int
	stops    []int
	parts    map[string]bool
}

var (
	refBytes  = regexp.MustCompile(`^[a-z0-9 +*/%<=()\[\],-]*$`)
	refTokens = regexp.MustCompile(`[a-z]+|[0-9]+|[^ ]`)
	refWord   = regexp.MustCompile(`^[a-z]{1,8}$`)
	refNumber = regexp.MustCompile(`^[0-9]{1,9}$`)
	refNames  = regexp.MustCompile(`[a-z]+( \[)?`)
	refArray  = regexp.MustCompile(`^array ([a-z]+) 0*([1-9]|[12][0-9]|3[0-2])$`)
)

const refReserved = " var array proc end else if while set to print read call return "

// check answers as P3 does; without an error the lines, depths and stops are known.
func (r *reference) check(source string) (api.Errno, int) {
	lines := strings.Split(source, "\n")
	if len(source) > 40000 || len(lines) > 100 {
		return api.ErrLong, 0
	}
	r.parts = map[string]bool{}
	for i, line := range lines {
		tokens := refTokens.FindAllString(line, -1)
		if !refBytes.MatchString(line) || len(tokens) > 24 || !r.isLine(tokens) {
			return api.ErrForm, i + 1
		}
		r.lines = append(r.lines, tokens)
	}
	if at := r.nest(); at > 0 {
		return api.ErrNest, at
	}
	return r.names()
}

func refIsName(token string) bool {
	return refWord.MatchString(token) && !strings.Contains(refReserved, " "+token+" ")
}

func refAreNames(tokens []string) bool {
	for _, token := range tokens {
		if !refIsName(token) {
			return false
		}
	}
	return true
}

func (r *reference) isLine(tokens []string) bool {
	for _, token := range tokens {
		if len(token) > 1 && !refWord.MatchString(token) && !refNumber.MatchString(token) {
			return false
		}
	}
	if len(tokens) == 0 {
		return true
	}
	rest := tokens[1:]
	switch tokens[0] {
	case "var", "read":
		return len(rest) == 1 && refAreNames(rest)
	case "array":
		return len(rest) == 2 && refIsName(rest[0]) && refArray.MatchString(strings.Join(tokens, " "))
	case "proc":
		return len(rest) >= 1 && len(rest) <= 5 && refAreNames(rest)
	case "end", "else", "return":
		return len(rest) == 0
	case "if", "while", "print":
		return r.is("expr", rest)
	case "call":
		if len(rest) == 0 || !refIsName(rest[0]) {
			return false
		}
		return len(rest) == 1 || r.is("list", rest[1:])
	case "set":
		for i, token := range rest {
			if token == "to" {
				return r.is("target", rest[:i]) && r.is("expr", rest[i+1:])
			}
		}
	}
	return false
}

func (r *reference) is(part string, tokens []string) bool {
	key := part + " " + strings.Join(tokens, " ")
	if answer, ok := r.parts[key]; ok {
		return answer
	}
	answer := false
	switch part {
	case "list":
		answer = r.is("expr", tokens) || r.split("list", ",", "expr", tokens)
	case "expr":
		answer = r.is("sum", tokens) || r.split("sum", "<=", "sum", tokens)
	case "sum":
		answer = r.is("term", tokens) || r.split("sum", "+-", "term", tokens)
	case "term":
		answer = r.is("factor", tokens) || r.split("term", "*/%", "factor", tokens)
	case "target":
		answer = len(tokens) == 1 && refIsName(tokens[0]) || r.isCell(tokens)
	case "factor":
		n := len(tokens)
		answer = n == 1 && (refNumber.MatchString(tokens[0]) || refIsName(tokens[0])) || r.isCell(tokens) ||
			n > 2 && tokens[0] == "(" && tokens[n-1] == ")" && r.is("expr", tokens[1:n-1]) ||
			n > 1 && tokens[0] == "-" && r.is("factor", tokens[1:])
	}
	r.parts[key] = answer
	return answer
}

func (r *reference) isCell(tokens []string) bool {
	n := len(tokens)
	return n > 3 && refIsName(tokens[0]) && tokens[1] == "[" && tokens[n-1] == "]" && r.is("expr", tokens[2:n-1])
}

func (r *reference) split(left, signs, right string, tokens []string) bool {
	for i, token := range tokens {
		if strings.Contains(signs, token) && r.is(left, tokens[:i]) && r.is(right, tokens[i+1:]) {
			return true
		}
	}
	return false
}

func (r *reference) first(i int) string {
	if i >= len(r.lines) || len(r.lines[i]) == 0 {
		return ""
	}
	return r.lines[i][0]
}

// nest answers the number of the line at fault, or 0.
func (r *reference) nest() int {
	r.depth = make([]int, len(r.lines))
	for i := 0; i < len(r.lines); i++ {
		switch r.first(i) {
		case "", "var", "array":
		case "proc":
			end, fault := r.block(i, 1)
			if fault > 0 {
				return fault
			}
			r.stops = append(r.stops, end+1)
			i = end
		default:
			return i + 1
		}
	}
	return 0
}

// block goes through the block that line i opens: it answers where its end is, or the number of the line at fault.
func (r *reference) block(i, depth int) (int, int) {
	mayElse := r.first(i) == "if"
	for k := i + 1; k < len(r.lines); k++ {
		r.depth[k] = depth
		switch r.first(k) {
		case "":
		case "var", "array", "proc":
			return 0, k + 1
		case "end":
			r.depth[k] = depth - 1
			return k, 0
		case "else":
			if !mayElse {
				return 0, k + 1
			}
			r.depth[k] = depth - 1
			mayElse = false
		case "if", "while":
			r.stops = append(r.stops, k+1)
			end, fault := r.block(k, depth+1)
			if fault > 0 {
				return 0, fault
			}
			k = end
		default:
			r.stops = append(r.stops, k+1)
		}
	}
	return 0, len(r.lines)
}

func (r *reference) names() (api.Errno, int) {
	r.arrays, r.vars, r.procs, r.declared = map[string]bool{}, map[string]bool{}, map[string][]string{}, map[string]int{}
	for i, tokens := range r.lines {
		first := r.first(i)
		if first != "var" && first != "array" && first != "proc" {
			continue
		}
		name := tokens[1]
		if _, ok := r.declared[name]; ok {
			continue
		}
		r.declared[name] = i
		switch first {
		case "var":
			r.vars[name] = true
		case "array":
			r.arrays[name] = true
		case "proc":
			r.procs[name] = tokens[2:]
		}
	}
	var params []string
	for i, tokens := range r.lines {
		if r.first(i) == "proc" {
			params = tokens[2:]
		}
		if len(tokens) > 0 && !r.lineNames(i, tokens, params) {
			return api.ErrName, i + 1
		}
	}
	if _, ok := r.procs["main"]; !ok {
		return api.ErrName, 0
	}
	return api.OK, 0
}

func (r *reference) lineNames(i int, tokens, params []string) bool {
	rest := tokens[1:]
	switch tokens[0] {
	case "proc":
		seen := map[string]bool{}
		for _, param := range params {
			seen[param] = true
		}
		return r.declared[rest[0]] == i && len(seen) == len(params) && (rest[0] != "main" || len(params) == 0)
	case "var", "array":
		return r.declared[rest[0]] == i
	case "call":
		wanted, ok := r.procs[rest[0]]
		given := 0
		if len(rest) > 1 {
			given = 1 + strings.Count(strings.Join(rest, ""), ",")
		}
		if !ok || given != len(wanted) {
			return false
		}
		rest = rest[1:]
	}
	// What is set or read is what the same name would be in an expression.
	for _, found := range refNames.FindAllString(strings.Join(rest, " "), -1) {
		name, isArray := strings.CutSuffix(found, " [")
		isParam := strings.Contains(" "+strings.Join(params, " ")+" ", " "+name+" ")
		if name == "to" {
			continue
		}
		if isArray && (isParam || !r.arrays[name]) || !isArray && !isParam && !r.vars[name] {
			return false
		}
	}
	return true
}

func (r *reference) tidy() string {
	var lines []string
	for i, tokens := range r.lines {
		line := ""
		if len(tokens) > 0 {
			line = strings.Repeat("  ", r.depth[i]) + strings.Join(tokens, " ")
		}
		lines = append(lines, line)
	}
	return strings.Join(lines, "\n")
}
