// Package fault: what is wrong with a text, as the calls tell it: a number and a line.
package fault

import (
	"errors"
	"strconv"

	"lockstep/api"
)

// Wrong wraps what was found by a function that knows neither the line nor the number that a call answers.
type Wrong struct {
	Number api.Errno
	Line   int // 0, if it is the text as a whole
	Cause  error
}

func (w *Wrong) Error() string {
	if w.Line == 0 {
		return w.Cause.Error()
	}
	return "line " + strconv.Itoa(w.Line) + ": " + w.Cause.Error()
}

func (w *Wrong) Unwrap() error { return w.Cause }

// Tell finds the number and the line in err, however deep it is wrapped; OK and 0, if nothing is wrong.
func Tell(err error) (api.Errno, int) {
	var wrong *Wrong
	if errors.As(err, &wrong) {
		return wrong.Number, wrong.Line
	}
	return api.OK, 0
}
