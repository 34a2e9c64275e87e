// Package catalog: what an index holds, and how it is read.
package catalog

import (
	"slices"

	"lockstep/asks"
	"lockstep/versions"
)

// Index holds the packages in the order in which they first stand in its text.
type Index struct {
	Packages []*Package
}

// Package holds its versions in the order of the text.
type Package struct {
	Name    string
	Entries []*Entry
}

// Entry is one version of a package.
type Entry struct {
	Version  versions.Version
	Needs    []Need
	Features []Feature
}

// Need is a line `needs` of an entry.
type Need struct {
	asks.Ask
	Optional bool
}

// Feature is a line `feature` of an entry.
type Feature struct {
	Name  string
	Items []Item
}

// ItemKind tells the forms of an item apart.
type ItemKind int

const (
	Own     ItemKind = iota // NAME
	Dep                     // dep:NAME
	With                    // NAME/NAME
	WithMet                 // NAME?/NAME
)

// Item is what a feature turns on. Own has no Package, Dep no Feature.
type Item struct {
	Kind    ItemKind
	Package string
	Feature string
}

// Choice holds of each package of an index, in its order, the entry that is chosen, or nil.
type Choice []*Entry

// Place tells which of the packages has that name; -1, if none has.
func (x *Index) Place(name string) int {
	return slices.IndexFunc(x.Packages, func(p *Package) bool { return p.Name == name })
}

// Has tells whether there is a package of that name.
func (x *Index) Has(name string) bool { return x.Place(name) >= 0 }

// Find gives the entry of that version, or nil.
func (p *Package) Find(v versions.Version) *Entry {
	k := slices.IndexFunc(p.Entries, func(e *Entry) bool { return e.Version == v })
	if k < 0 {
		return nil
	}
	return p.Entries[k]
}

// Need gives the entry's line `needs` of that package, if there is one.
func (e *Entry) Need(name string) (Need, bool) {
	k := slices.IndexFunc(e.Needs, func(n Need) bool { return n.Package == name })
	if k < 0 {
		return Need{}, false
	}
	return e.Needs[k], true
}

// Feature gives the entry's feature of that name, if there is one.
func (e *Entry) Feature(name string) (Feature, bool) {
	k := slices.IndexFunc(e.Features, func(f Feature) bool { return f.Name == name })
	if k < 0 {
		return Feature{}, false
	}
	return e.Features[k], true
}
