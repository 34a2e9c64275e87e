// Package follow: what follows from a choice and a request, and whether the choice is a solution.
package follow

import (
	"container/heap"
	"slices"

	"lockstep/asks"
	"lockstep/catalog"
)

// follower gathers what follows. It stops at the first thing that no solution has, for nothing that follows is ever taken back.
type follower struct {
	index  *catalog.Index
	choice catalog.Choice // may be of the first packages only: the others are open
	known  map[fact]struct{}
	todo   todo
	wrong  bool
}

// Features tells of each package, in the order of the index, which features are on, rising; and whether the choice is a solution. If it is none, there are no features.
func Features(x *catalog.Index, choice catalog.Choice, roots []asks.Ask) ([][]string, bool) {
	f := gather(x, choice, roots)
	if f.wrong || f.choosesUnwanted() {
		return nil, false
	}
	return f.features(), true
}

// Possible tells of a choice of the first packages only whether nothing is wrong with it yet. If something is, no choice that begins so is a solution.
// A package that is chosen and not wanted is nothing wrong: one behind may want it.
func Possible(x *catalog.Index, choice catalog.Choice, roots []asks.Ask) bool {
	return !gather(x, choice, roots).wrong
}

func gather(x *catalog.Index, choice catalog.Choice, roots []asks.Ask) *follower {
	f := &follower{index: x, choice: choice, known: map[fact]struct{}{}}
	for _, root := range roots {
		f.ask(root)
	}
	for !f.wrong && f.todo.Len() > 0 {
		f.follow(heap.Pop(&f.todo).(fact))
	}
	return f
}

// isOpen tells whether nothing is decided of the package, so that nothing follows from it and nothing is wrong with it.
func (f *follower) isOpen(place int) bool { return place >= len(f.choice) }

func (f *follower) knows(n fact) bool {
	_, ok := f.known[n]
	return ok
}

func (f *follower) add(n fact) {
	if f.knows(n) {
		return
	}
	f.known[n] = struct{}{}
	heap.Push(&f.todo, n)
}

// ask adds what a root line, or a `needs` that is met, gives.
func (f *follower) ask(a asks.Ask) {
	place := f.index.Place(a.Package)
	if f.isOpen(place) {
		return
	}
	entry := f.choice[place]
	if entry == nil || !a.Demand.Fits(entry.Version) {
		f.wrong = true
		return
	}
	f.add(fact{wanted, place, ""})
	for _, name := range a.Features {
		f.turnOn(place, name)
	}
	if !a.Bare && f.has(place, "default") {
		f.turnOn(place, "default")
	}
}

// has tells whether an entry is chosen that has the feature.
func (f *follower) has(place int, name string) bool {
	entry := f.choice[place]
	if entry == nil {
		return false
	}
	_, ok := entry.Feature(name)
	return ok
}

func (f *follower) turnOn(place int, name string) {
	if f.isOpen(place) {
		return
	}
	if !f.has(place, name) {
		f.wrong = true
		return
	}
	f.add(fact{on, place, name})
}

// follow adds what follows from one fact, and from those that were known ahead of it.
func (f *follower) follow(n fact) {
	entry := f.choice[n.place]
	switch n.kind {
	case wanted:
		f.meetAll(n.place, entry)
	case met:
		need, _ := entry.Need(n.name)
		f.ask(need.Ask)
		f.turnOnAgain(n.place, entry)
	case on:
		feature, _ := entry.Feature(n.name)
		f.takeItems(n.place, feature.Items)
	}
}

func (f *follower) meetAll(place int, entry *catalog.Entry) {
	for _, need := range entry.Needs {
		if !need.Optional {
			f.add(fact{met, place, need.Package})
		}
	}
}

// turnOnAgain takes the items of features that are on already: a `P?/F` among them may have waited for a `needs` that is met only now.
func (f *follower) turnOnAgain(place int, entry *catalog.Entry) {
	for _, feature := range entry.Features {
		if f.knows(fact{on, place, feature.Name}) {
			f.takeItems(place, feature.Items)
		}
	}
}

func (f *follower) takeItems(place int, items []catalog.Item) {
	for _, item := range items {
		f.takeItem(place, item)
	}
}

func (f *follower) takeItem(place int, item catalog.Item) {
	need := fact{met, place, item.Package}
	switch item.Kind {
	case catalog.Own:
		f.turnOn(place, item.Feature)
	case catalog.Dep:
		f.add(need)
	case catalog.With:
		f.add(need)
		f.turnOn(f.index.Place(item.Package), item.Feature)
	case catalog.WithMet:
		if f.knows(need) {
			f.turnOn(f.index.Place(item.Package), item.Feature)
		}
	}
}

func (f *follower) choosesUnwanted() bool {
	for place, entry := range f.choice {
		if entry != nil && !f.knows(fact{wanted, place, ""}) {
			return true
		}
	}
	return false
}

func (f *follower) features() [][]string {
	all := make([][]string, len(f.choice))
	for place, entry := range f.choice {
		if entry == nil {
			continue
		}
		for _, feature := range entry.Features {
			if f.knows(fact{on, place, feature.Name}) {
				all[place] = append(all[place], feature.Name)
			}
		}
		slices.Sort(all[place])
	}
	return all
}
