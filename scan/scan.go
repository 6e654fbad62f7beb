// Package scan cuts a source into lines, and a line into tokens.
package scan

import "retrace/api"

// The kinds of tokens.
const (
	Word   = 1
	Number = 2
	Sign   = 3
)

// Token is a word, a number or a sign, with its text as it stands in the source.
type Token struct {
	Kind int
	Text string
}

// TooLong tells whether a source has more bytes or lines than it may have.
func TooLong(source string) bool {
	// The bytes come first: a source of any length is not gone through.
	if len(source) > api.MaxSource {
		return true
	}
	lines := 1
	for i := 0; i < len(source); i++ {
		if source[i] == '\n' {
			lines++
		}
	}
	return lines > api.MaxLines
}

// Lines cuts a source at its newlines: n of them give n + 1 lines.
func Lines(source string) []string {
	var lines []string
	start := 0
	for i := 0; i < len(source); i++ {
		if source[i] == '\n' {
			lines = append(lines, source[start:i])
			start = i + 1
		}
	}
	return append(lines, source[start:])
}

// Tokens cuts a line into its tokens. It answers false where the line has
// something that is no token, or too many of them.
func Tokens(line string) ([]Token, bool) {
	var tokens []Token
	at := 0
	for at < len(line) {
		if line[at] == ' ' {
			at++
			continue
		}
		kind, size := measure(line, at)
		if size == 0 || len(tokens) >= api.MaxTokens {
			return nil, false
		}
		tokens = append(tokens, Token{Kind: kind, Text: line[at : at+size]})
		at += size
	}
	return tokens, true
}

// measure tells the kind and the size of the token that begins at a byte of
// the line; both are 0 where none does.
func measure(line string, at int) (int, int) {
	letters := countWithin(line, at, 'a', 'z')
	if letters > api.MaxWord {
		return 0, 0
	}
	if letters > 0 {
		return Word, letters
	}
	digits := countWithin(line, at, '0', '9')
	if digits > api.MaxDigits {
		return 0, 0
	}
	if digits > 0 {
		return Number, digits
	}
	if at < len(line) && isSign(line[at]) {
		return Sign, 1
	}
	return 0, 0
}

// countWithin counts the bytes from low to high that stand side by side from
// a byte of the line on.
func countWithin(line string, at int, low byte, high byte) int {
	end := at
	for end < len(line) && line[end] >= low && line[end] <= high {
		end++
	}
	return end - at
}

func isSign(b byte) bool {
	switch b {
	case '+', '-', '*', '/', '%', '<', '=', '(', ')', '[', ']', ',':
		return true
	}
	return false
}
