// Package lines: what texts of every kind are made of: lines, words, names.
package lines

import (
	"errors"
	"strings"

	"lockstep/api"
	"lockstep/fault"
)

var (
	errLong = errors.New("the text is too long")
	errFeed = errors.New("there is no line feed at the end")
)

// Each hands the number and the words of each line to take, and stops at the first line that take finds wrong.
// Words between which there is more than one space, or a space ahead or behind, come with empty words among them:
// as no word of any line may be empty, take refuses them.
func Each(text string, take func(number int, words []string) error) error {
	if len(text) > api.MaxText {
		return &fault.Wrong{Number: api.ErrLong, Cause: errLong}
	}
	for number := 1; text != ""; number++ {
		line, rest, ended := strings.Cut(text, "\n")
		if !ended {
			return &fault.Wrong{Number: api.ErrLine, Line: number, Cause: errFeed}
		}
		// A copy: what is kept of the words must not hold on to the caller's text.
		words := strings.Split(strings.Clone(line), " ")
		if err := take(number, words); err != nil {
			return &fault.Wrong{Number: api.ErrLine, Line: number, Cause: err}
		}
		text = rest
	}
	return nil
}

// IsName tells whether a word is a NAME.
func IsName(word string) bool {
	if word == "" || len(word) > api.MaxName || !isLetter(word[0]) {
		return false
	}
	for _, c := range []byte(word) {
		if !isLetter(c) && !isDigit(c) {
			return false
		}
	}
	return true
}

func isLetter(c byte) bool { return 'a' <= c && c <= 'z' }

func isDigit(c byte) bool { return '0' <= c && c <= '9' }
