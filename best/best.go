// Package best: the best solution of a request.
package best

import (
	"slices"

	"lockstep/asks"
	"lockstep/catalog"
	"lockstep/follow"
)

// search goes through the choices, the better ones first, so that the first solution that it meets is the best.
type search struct {
	index    *catalog.Index
	roots    []asks.Ask
	choice   catalog.Choice
	features [][]string
}

// Solution gives the best solution and, in the order of the index, which features are on of each package; and whether there is one.
func Solution(x *catalog.Index, roots []asks.Ask) (catalog.Choice, [][]string, bool) {
	s := &search{index: x, roots: roots, choice: make(catalog.Choice, len(x.Packages))}
	if !s.decide(0) {
		return nil, nil, false
	}
	return s.choice, s.features, true
}

// decide chooses for the package at that place and for those behind it, and tells whether a solution came of it.
func (s *search) decide(place int) bool {
	if place == len(s.choice) {
		features, ok := follow.Features(s.index, s.choice, s.roots)
		s.features = features
		return ok
	}
	// What is wrong already stays so, whatever is chosen behind it.
	if !follow.Possible(s.index, s.choice[:place], s.roots) {
		return false
	}
	for _, entry := range options(s.index.Packages[place]) {
		s.choice[place] = entry
		if s.decide(place + 1) {
			return true
		}
	}
	return false
}

// options are what may be chosen of a package, the better ones first: nothing, then its versions from the last one on.
func options(p *catalog.Package) []*catalog.Entry {
	entries := append([]*catalog.Entry{nil}, p.Entries...)
	slices.SortFunc(entries[1:], func(a, b *catalog.Entry) int { return b.Version.Compare(a.Version) })
	return entries
}
