package fault

import (
	"errors"
	"fmt"
	"testing"

	"lockstep/api"
)

func TestTellFindsNumberAndLineHoweverDeep(t *testing.T) {
	cause := errors.New("cause")
	wrong := &Wrong{Number: api.ErrName, Line: 7, Cause: cause}
	for _, err := range []error{wrong, fmt.Errorf("outer: %w", wrong), fmt.Errorf("outmost: %w", fmt.Errorf("outer: %w", wrong))} {
		if number, line := Tell(err); number != api.ErrName || line != 7 {
			t.Errorf("Tell(%v) = %d, %d", err, number, line)
		}
		if !errors.Is(err, cause) {
			t.Errorf("%v does not wrap its cause", err)
		}
	}
}

func TestTellOfNothing(t *testing.T) {
	if number, line := Tell(nil); number != api.OK || line != 0 {
		t.Errorf("Tell(nil) = %d, %d", number, line)
	}
}

func TestError(t *testing.T) {
	cause := errors.New("cause")
	if s := (&Wrong{Number: api.ErrLine, Line: 12, Cause: cause}).Error(); s != "line 12: cause" {
		t.Errorf("with a line: %q", s)
	}
	if s := (&Wrong{Number: api.ErrLong, Cause: cause}).Error(); s != "cause" {
		t.Errorf("without a line: %q", s)
	}
}
