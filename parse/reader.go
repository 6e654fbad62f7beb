package parse

import "retrace/scan"

// reader goes through the tokens of a line, from the first to the last.
type reader struct {
	tokens []scan.Token
	at     int  // the token that comes next
	ops    []Op // of the expression that is being read
}

// more tells whether a token is left.
func (r *reader) more() bool {
	return r.at < len(r.tokens)
}

// take goes behind the next token if it has that text; else it stays.
func (r *reader) take(text string) bool {
	if r.at >= len(r.tokens) || r.tokens[r.at].Text != text {
		return false
	}
	r.at++
	return true
}

// name reads a word that is not reserved.
func (r *reader) name() (string, bool) {
	if r.at >= len(r.tokens) {
		return "", false
	}
	token := r.tokens[r.at]
	if token.Kind != scan.Word || reserved(token.Text) {
		return "", false
	}
	r.at++
	return token.Text, true
}

// number reads a number.
func (r *reader) number() (int, bool) {
	if r.at >= len(r.tokens) || r.tokens[r.at].Kind != scan.Number {
		return 0, false
	}
	value := valueOf(r.tokens[r.at].Text)
	r.at++
	return value, true
}

// valueOf works out a text of digits.
func valueOf(digits string) int {
	value := 0
	for i := 0; i < len(digits); i++ {
		value = value*10 + int(digits[i]-'0')
	}
	return value
}

func reserved(word string) bool {
	switch word {
	case "var", "array", "proc", "end", "else", "if", "while",
		"set", "to", "print", "read", "call", "return":
		return true
	}
	return false
}
