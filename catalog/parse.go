package catalog

import (
	"errors"
	"slices"
	"strings"

	"lockstep/api"
	"lockstep/asks"
	"lockstep/lines"
)

var (
	errFeature = errors.New("this is no feature")
	errItem    = errors.New("this is no item")
)

// parseNeed reads what stands behind the word `needs`: what a root line may say, but for `optional` behind the demand.
func parseNeed(words []string) (Need, error) {
	optional := len(words) > 2 && words[2] == "optional"
	if optional {
		words = slices.Concat(words[:2], words[3:])
	}
	ask, err := asks.Parse(words)
	if err != nil {
		return Need{}, err
	}
	return Need{Ask: ask, Optional: optional}, nil
}

// parseFeature reads what stands behind the word `feature`.
func parseFeature(words []string) (Feature, error) {
	if len(words) == 0 || !lines.IsName(words[0]) {
		return Feature{}, errFeature
	}
	feature := Feature{Name: words[0]}
	if len(words)-1 > api.MaxItems {
		return Feature{}, errMany
	}
	for _, word := range words[1:] {
		item, err := parseItem(word)
		if err != nil {
			return Feature{}, err
		}
		feature.Items = append(feature.Items, item)
	}
	return feature, nil
}

func parseItem(word string) (Item, error) {
	if name, ok := strings.CutPrefix(word, "dep:"); ok {
		return checkItem(Item{Kind: Dep, Package: name}, name)
	}
	name, feature, ok := strings.Cut(word, "/")
	if !ok {
		return checkItem(Item{Kind: Own, Feature: word}, word)
	}
	if met, ok := strings.CutSuffix(name, "?"); ok {
		return checkItem(Item{Kind: WithMet, Package: met, Feature: feature}, met, feature)
	}
	return checkItem(Item{Kind: With, Package: name, Feature: feature}, name, feature)
}

func checkItem(item Item, names ...string) (Item, error) {
	for _, name := range names {
		if !lines.IsName(name) {
			return Item{}, errItem
		}
	}
	return item, nil
}
