package machine

import (
	"retrace/api"
	"retrace/parse"
)

// stack is the values that the work on an expression has at hand.
type stack struct {
	values []int
}

func (s *stack) push(value int) {
	s.values = append(s.values, value)
}

func (s *stack) pop() int {
	last := len(s.values) - 1
	if last < 0 {
		return 0
	}
	value := s.values[last]
	s.values = s.values[:last]
	return value
}

// value works out the expression of a line that has one value.
func (m *Machine) value(form parse.Form) (int, int) {
	if len(form.Values) == 0 {
		return 0, api.Running
	}
	return m.evaluate(form.Values[0])
}

// evaluate works out an expression; it tells the trap that it meets first.
func (m *Machine) evaluate(expr parse.Expr) (int, int) {
	s := stack{}
	for i := 0; i < len(expr.Ops); i++ {
		trap := m.work(&s, expr.Ops[i])
		if trap != api.Running {
			return 0, trap
		}
	}
	return s.pop(), api.Running
}

// work does one piece of the work on an expression.
func (m *Machine) work(s *stack, op parse.Op) int {
	switch op.Code {
	case parse.Constant:
		s.push(op.Number)
		return api.Running
	case parse.Load:
		from := m.variable(op.Name)
		value := m.get(from)
		s.push(value)
		return api.Running
	case parse.LoadCell:
		number := s.pop()
		from, ok := m.cell(op.Name, number)
		if !ok {
			return api.BadIndex
		}
		value := m.get(from)
		s.push(value)
		return api.Running
	case parse.Negate:
		value := s.pop()
		s.push(-value)
		return api.Running
	}
	right := s.pop()
	left := s.pop()
	value, trap := combine(op.Code, left, right)
	if trap == api.Running {
		s.push(value)
	}
	return trap
}

// combine works out what a sign makes of the values on its sides.
func combine(code int, left int, right int) (int, int) {
	switch code {
	case parse.Add:
		return left + right, api.Running
	case parse.Subtract:
		return left - right, api.Running
	case parse.Multiply:
		return left * right, api.Running
	case parse.Less:
		return truth(left < right), api.Running
	case parse.Equal:
		return truth(left == right), api.Running
	}
	if right == 0 {
		return 0, api.ByZero
	}
	if code == parse.Divide {
		return left / right, api.Running
	}
	return left % right, api.Running
}

func truth(so bool) int {
	if so {
		return 1
	}
	return 0
}
