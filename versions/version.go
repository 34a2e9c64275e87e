// Package versions: versions, and what is demanded of them.
package versions

import (
	"errors"
	"slices"
	"strconv"
	"strings"

	"lockstep/api"
)

var errVersion = errors.New("this is no version")

// Version is its three numbers.
type Version [3]int

// Parse reads a VERSION.
func Parse(word string) (Version, error) {
	// One more than a version has, so that a long word is not cut up whole.
	parts := strings.SplitN(word, ".", len(Version{})+1)
	if len(parts) != len(Version{}) {
		return Version{}, errVersion
	}
	var v Version
	for k, part := range parts {
		number, ok := parseNumber(part)
		if !ok {
			return Version{}, errVersion
		}
		v[k] = number
	}
	return v, nil
}

// parseNumber is stricter than strconv.Atoi, which takes signs and zeros ahead.
func parseNumber(digits string) (int, bool) {
	if digits == "" || len(digits) > 1 && digits[0] == '0' {
		return 0, false
	}
	number := 0
	for _, c := range []byte(digits) {
		if c < '0' || c > '9' {
			return 0, false
		}
		number = number*10 + int(c-'0')
		if number > api.MaxNumber {
			return 0, false
		}
	}
	return number, true
}

// Compare is below 0, if v stands ahead of w, above 0, if behind it, and 0, if it is w.
func (v Version) Compare(w Version) int { return slices.Compare(v[:], w[:]) }

// String gives the VERSION that Parse reads as v.
func (v Version) String() string {
	return strconv.Itoa(v[0]) + "." + strconv.Itoa(v[1]) + "." + strconv.Itoa(v[2])
}
