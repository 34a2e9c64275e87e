package lines

import (
	"errors"
	"reflect"
	"strings"
	"testing"

	"lockstep/api"
	"lockstep/fault"
)

func TestEachHandsOutNumbersAndWords(t *testing.T) {
	var numbers []int
	var words [][]string
	err := Each("a b\n\n c  d \n", func(number int, line []string) error {
		numbers = append(numbers, number)
		words = append(words, line)
		return nil
	})
	if err != nil {
		t.Fatal(err)
	}
	if want := []int{1, 2, 3}; !reflect.DeepEqual(numbers, want) {
		t.Errorf("numbers %v, want %v", numbers, want)
	}
	if want := [][]string{{"a", "b"}, {""}, {"", "c", "", "d", ""}}; !reflect.DeepEqual(words, want) {
		t.Errorf("words %q, want %q", words, want)
	}
}

func TestEachStopsAtTheFirstWrongLine(t *testing.T) {
	cause := errors.New("cause")
	taken := 0
	err := Each("a\nb\nb\nc", func(number int, line []string) error {
		taken++
		if line[0] == "b" {
			return cause
		}
		return nil
	})
	if number, line := fault.Tell(err); number != api.ErrLine || line != 2 || taken != 2 {
		t.Errorf("%d, %d, behind %d lines", number, line, taken)
	}
	if !errors.Is(err, cause) {
		t.Errorf("%v does not wrap its cause", err)
	}
}

func TestEachOfTexts(t *testing.T) {
	for _, c := range []struct {
		text  string
		e     api.Errno
		at    int
		taken int
	}{
		{"", api.OK, 0, 0},
		{"a\n", api.OK, 0, 1},
		{"a", api.ErrLine, 1, 0},
		{"a\nb", api.ErrLine, 2, 1},
		{strings.Repeat("\n", api.MaxText), api.OK, 0, api.MaxText},
		{strings.Repeat("\n", api.MaxText+1), api.ErrLong, 0, 0},
		{strings.Repeat("a", api.MaxText), api.ErrLine, 1, 0},
		{strings.Repeat("a", api.MaxText+1), api.ErrLong, 0, 0},
	} {
		taken := 0
		err := Each(c.text, func(int, []string) error { taken++; return nil })
		if e, at := fault.Tell(err); e != c.e || at != c.at || taken != c.taken {
			t.Errorf("%.20q: %d, %d, behind %d lines, want %d, %d, %d", c.text, e, at, taken, c.e, c.at, c.taken)
		}
	}
}

func TestIsName(t *testing.T) {
	for _, word := range []string{"a", "z", "a0", "z9", "abcdefgh", "a1234567", "package", "bare"} {
		if !IsName(word) {
			t.Errorf("%q is a NAME", word)
		}
	}
	for _, word := range []string{"", "0", "9a", "A", "aB", "a_", "a-b", "a.b", "a ", " a", "a\n", "`", "{", "a/", "a:", "a\x00", "é", "aé", "abcdefghi"} {
		if IsName(word) {
			t.Errorf("%q is no NAME", word)
		}
	}
}
