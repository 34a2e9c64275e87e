package catalog

import (
	"errors"
	"strings"

	"lockstep/api"
	"lockstep/lines"
	"lockstep/versions"
)

var (
	errNeed    = errors.New("this is no need")
	errAsked   = errors.New("this is no feature that is asked for")
	errFeature = errors.New("this is no feature")
	errItem    = errors.New("this is no item")
)

// parseNeed reads what stands behind the word `needs`.
func parseNeed(words []string) (Need, error) {
	if len(words) < 2 || !lines.IsName(words[0]) {
		return Need{}, errNeed
	}
	demand, err := versions.ParseDemand(words[1])
	if err != nil {
		return Need{}, err
	}
	need := Need{Package: words[0], Demand: demand}
	words = words[2:]
	need.Optional, words = cutWord(words, "optional")
	need.Bare, words = cutWord(words, "bare")
	need.Features, err = parseAsked(words)
	if err != nil {
		return Need{}, err
	}
	return need, nil
}

// cutWord tells whether the first of the words is the one given, and gives those behind it.
func cutWord(words []string, word string) (bool, []string) {
	if len(words) > 0 && words[0] == word {
		return true, words[1:]
	}
	return false, words
}

func parseAsked(words []string) ([]string, error) {
	if len(words) > api.MaxItems {
		return nil, errMany
	}
	var names []string
	for _, word := range words {
		name, plus := strings.CutPrefix(word, "+")
		if !plus || !lines.IsName(name) {
			return nil, errAsked
		}
		names = append(names, name)
	}
	return names, nil
}

// parseFeature reads what stands behind the word `feature`.
func parseFeature(words []string) (Feature, error) {
	if len(words) == 0 || !lines.IsName(words[0]) {
		return Feature{}, errFeature
	}
	feature := Feature{Name: words[0]}
	if len(words)-1 > api.MaxItems {
		return Feature{}, errMany
	}
	for _, word := range words[1:] {
		item, err := parseItem(word)
		if err != nil {
			return Feature{}, err
		}
		feature.Items = append(feature.Items, item)
	}
	return feature, nil
}

func parseItem(word string) (Item, error) {
	if name, ok := strings.CutPrefix(word, "dep:"); ok {
		return checkItem(Item{Kind: Dep, Package: name}, name)
	}
	name, feature, ok := strings.Cut(word, "/")
	if !ok {
		return checkItem(Item{Kind: Own, Feature: word}, word)
	}
	if met, ok := strings.CutSuffix(name, "?"); ok {
		return checkItem(Item{Kind: WithMet, Package: met, Feature: feature}, met, feature)
	}
	return checkItem(Item{Kind: With, Package: name, Feature: feature}, name, feature)
}

func checkItem(item Item, names ...string) (Item, error) {
	for _, name := range names {
		if !lines.IsName(name) {
			return Item{}, errItem
		}
	}
	return item, nil
}
