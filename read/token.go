package read

import (
	"strconv"
	"strings"

	"cadence/api"
)

type kind int

const (
	none   kind = iota // what is no token
	end                // of the text
	fixed              // a keyword or a sign
	name               // any other word
	number             // digits
)

type token struct {
	kind  kind
	text  string
	place int
	value int64 // of a number
}

// scan gives the first token at or behind a place of the text.
func scan(src string, from int) token {
	place := from + span(src[from:], isSpace)
	rest := src[place:]
	switch {
	case rest == "":
		return token{kind: end, place: place}
	case isLetter(rest[0]):
		return word(rest, place)
	case isDigit(rest[0]):
		return digits(rest, place)
	}
	return sign(rest, place)
}

// span tells how many bytes at the beginning belong together.
func span(rest string, belongs func(b byte) bool) int {
	for i := range len(rest) {
		if !belongs(rest[i]) {
			return i
		}
	}
	return len(rest)
}

func isSpace(b byte) bool  { return b == ' ' || b == '\n' }
func isLetter(b byte) bool { return 'a' <= b && b <= 'z' }
func isDigit(b byte) bool  { return '0' <= b && b <= '9' }
func inWord(b byte) bool   { return isLetter(b) || isDigit(b) || b == '_' }

func word(rest string, place int) token {
	text := rest[:span(rest, inWord)]
	switch {
	case isKeyword(text):
		return token{kind: fixed, text: text, place: place}
	case len(text) <= api.MaxName:
		return token{kind: name, text: text, place: place}
	}
	return token{kind: none, place: place}
}

func isKeyword(text string) bool {
	switch text {
	case "node", "var", "int", "bool", "on", "not", "and", "or", "xor",
		"if", "then", "else", "merge", "when", "whenot", "fby", "true", "false":
		return true
	}
	return false
}

func digits(rest string, place int) token {
	text := rest[:span(rest, isDigit)]
	value, err := strconv.ParseInt(text, 10, 64)
	if err != nil {
		return token{kind: none, place: place}
	}
	return token{kind: number, text: text, place: place, value: value}
}

func sign(rest string, place int) token {
	for _, long := range [...]string{"->", "<>", "<="} {
		if strings.HasPrefix(rest, long) {
			return token{kind: fixed, text: long, place: place}
		}
	}
	if strings.IndexByte("(){}:;,=<+-*/%", rest[0]) >= 0 {
		return token{kind: fixed, text: rest[:1], place: place}
	}
	return token{kind: none, place: place}
}
