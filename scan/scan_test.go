package scan

import (
	"reflect"
	"strings"
	"testing"
)

func TestTooLong(t *testing.T) {
	for _, c := range []struct {
		name   string
		source string
		want   bool
	}{
		{"nothing", "", false},
		{"the greatest number of bytes", strings.Repeat("x", 40000), false},
		{"a byte more", strings.Repeat("x", 40001), true},
		{"the greatest number of lines", strings.Repeat("\n", 99), false},
		{"a line more", strings.Repeat("\n", 100), true},
		{"a last line that is not empty", strings.Repeat("\n", 99) + "x", false},
		{"far too many lines", strings.Repeat("\n", 40000), true},
	} {
		if got := TooLong(c.source); got != c.want {
			t.Errorf("%s: %v", c.name, got)
		}
	}
}

func TestLines(t *testing.T) {
	for _, source := range []string{"", "a", "\n", "a\n", "\na", "a\nb", "a\n\nb\n", "a\r\nb", " \n "} {
		if got := Lines(source); !reflect.DeepEqual(got, strings.Split(source, "\n")) {
			t.Errorf("Lines(%q) = %q", source, got)
		}
	}
}

func TestTokens(t *testing.T) {
	for _, c := range []struct {
		line string
		want []Token
	}{
		{"", nil},
		{"   ", nil},
		{"set x", []Token{{Word, "set"}, {Word, "x"}}},
		{"  set   x  ", []Token{{Word, "set"}, {Word, "x"}}},
		{"a1b22", []Token{{Word, "a"}, {Number, "1"}, {Word, "b"}, {Number, "22"}}},
		{"x<-007", []Token{{Word, "x"}, {Sign, "<"}, {Sign, "-"}, {Number, "007"}}},
		{"==", []Token{{Sign, "="}, {Sign, "="}}},
		{"az09", []Token{{Word, "az"}, {Number, "09"}}},
		{"abcdefgh 123456789", []Token{{Word, "abcdefgh"}, {Number, "123456789"}}},
	} {
		got, ok := Tokens(c.line)
		if !ok || !reflect.DeepEqual(got, c.want) {
			t.Errorf("Tokens(%q) = %v, %v", c.line, got, ok)
		}
	}
}

func TestTokensRefused(t *testing.T) {
	for _, line := range []string{
		"abcdefghi", "1234567890", "a abcdefghij", "1 0000000001", "x\tx", "x\r", "X", "aB", "x > 1", "é", "\x00", "x_y", "1.5", "x:", "\xff",
	} {
		if got, ok := Tokens(line); ok || got != nil {
			t.Errorf("Tokens(%q) = %v, %v", line, got, ok)
		}
	}
}

func TestTokensOfEachByte(t *testing.T) {
	for b := 0; b < 256; b++ {
		kind := 0
		switch {
		case b >= 'a' && b <= 'z':
			kind = Word
		case b >= '0' && b <= '9':
			kind = Number
		case strings.IndexByte("+-*/%<=()[],", byte(b)) >= 0:
			kind = Sign
		}
		text := string([]byte{byte(b)})
		got, ok := Tokens(text)
		if ok != (kind != 0 || b == ' ') {
			t.Errorf("Tokens(%q) = %v, %v", text, got, ok)
		}
		if kind != 0 && !reflect.DeepEqual(got, []Token{{kind, text}}) {
			t.Errorf("Tokens(%q) = %v, %v", text, got, ok)
		}
	}
}

func TestTokensBound(t *testing.T) {
	for _, token := range []string{"(", "x ", "1 "} {
		got, ok := Tokens(strings.Repeat(token, 24) + "  ")
		if !ok || len(got) != 24 {
			t.Errorf("24 times %q: %v, %v", token, got, ok)
		}
		got, ok = Tokens(strings.Repeat(token, 25))
		if ok || got != nil {
			t.Errorf("25 times %q: %v, %v", token, got, ok)
		}
	}
}
