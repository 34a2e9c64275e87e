package versions

import (
	"errors"
	"strings"
)

var errDemand = errors.New("this is no demand")

// strength is how much a demand asks: each asks one thing more than the one ahead of it.
type strength int

const (
	anything strength = iota
	notAhead
	sameFirst
	sameSecond
	sameThird
)

// Demand is what is asked of a version. Its zero value is `*`.
type Demand struct {
	strength strength
	from     Version
}

// ParseDemand reads a DEMAND.
func ParseDemand(word string) (Demand, error) {
	if word == "*" {
		return Demand{}, nil
	}
	start := strings.IndexAny(word, "0123456789")
	if start < 0 {
		return Demand{}, errDemand
	}
	from, err := Parse(word[start:])
	if err != nil {
		return Demand{}, err
	}
	switch word[:start] {
	case "=":
		return Demand{sameThird, from}, nil
	case ">=":
		return Demand{notAhead, from}, nil
	case "~":
		return Demand{sameSecond, from}, nil
	case "^":
		return Demand{caretStrength(from), from}, nil
	}
	return Demand{}, errDemand
}

// caretStrength: `^` holds fast the numbers up to the first that is not 0.
func caretStrength(from Version) strength {
	switch {
	case from[0] != 0:
		return sameFirst
	case from[1] != 0:
		return sameSecond
	}
	return sameThird
}

// Fits tells whether v fits the demand: a demand asks its own thing and all that the weaker ones ask.
func (d Demand) Fits(v Version) bool {
	switch d.strength {
	case sameThird:
		if v[2] != d.from[2] {
			return false
		}
		fallthrough
	case sameSecond:
		if v[1] != d.from[1] {
			return false
		}
		fallthrough
	case sameFirst:
		if v[0] != d.from[0] {
			return false
		}
		fallthrough
	case notAhead:
		if v.Compare(d.from) < 0 {
			return false
		}
		fallthrough
	case anything:
	}
	return true
}
