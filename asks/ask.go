// Package asks: what a request asks of packages, and packages of one another.
package asks

import (
	"errors"
	"strings"

	"lockstep/api"
	"lockstep/lines"
	"lockstep/versions"
)

var (
	errAsk     = errors.New("this names no package and demand")
	errFeature = errors.New("this is no feature that is asked for")
	errMany    = errors.New("there are too many of these")
)

// Ask is what a line `root` and a line `needs` have in common.
type Ask struct {
	Package  string
	Demand   versions.Demand
	Bare     bool
	Features []string
}

// Parse reads NAME and DEMAND, and behind them `bare`, or not, and words `+NAME`.
func Parse(words []string) (Ask, error) {
	if len(words) < 2 || !lines.IsName(words[0]) {
		return Ask{}, errAsk
	}
	demand, err := versions.ParseDemand(words[1])
	if err != nil {
		return Ask{}, err
	}
	ask := Ask{Package: words[0], Demand: demand}
	words = words[2:]
	if len(words) > 0 && words[0] == "bare" {
		ask.Bare = true
		words = words[1:]
	}
	ask.Features, err = parseFeatures(words)
	if err != nil {
		return Ask{}, err
	}
	return ask, nil
}

func parseFeatures(words []string) ([]string, error) {
	if len(words) > api.MaxItems {
		return nil, errMany
	}
	var names []string
	for _, word := range words {
		name, plus := strings.CutPrefix(word, "+")
		if !plus || !lines.IsName(name) {
			return nil, errFeature
		}
		names = append(names, name)
	}
	return names, nil
}
