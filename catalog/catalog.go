// Package catalog: what an index holds, and how it is read.
package catalog

import (
	"slices"

	"lockstep/versions"
)

// Index holds the packages in the order in which they first stand in its text.
type Index struct {
	Packages []*Package
}

// Package holds its versions in the order of the text.
type Package struct {
	Name    string
	Entries []*Entry
}

// Entry is one version of a package.
type Entry struct {
	Version  versions.Version
	Needs    []Need
	Features []Feature
}

// Need is a line `needs` of an entry.
type Need struct {
	Package  string
	Demand   versions.Demand
	Optional bool
	Bare     bool
	Features []string
}

// Feature is a line `feature` of an entry.
type Feature struct {
	Name  string
	Items []Item
}

// ItemKind tells the forms of an item apart.
type ItemKind int

const (
	Own     ItemKind = iota // NAME
	Dep                     // dep:NAME
	With                    // NAME/NAME
	WithMet                 // NAME?/NAME
)

// Item is what a feature turns on. Own has no Package, Dep no Feature.
type Item struct {
	Kind    ItemKind
	Package string
	Feature string
}

// Find gives the package of that name, or nil.
func (x *Index) Find(name string) *Package {
	k := slices.IndexFunc(x.Packages, func(p *Package) bool { return p.Name == name })
	if k < 0 {
		return nil
	}
	return x.Packages[k]
}

// Has tells whether the package has that version.
func (p *Package) Has(v versions.Version) bool {
	return slices.ContainsFunc(p.Entries, func(e *Entry) bool { return e.Version == v })
}

// Need gives the entry's line `needs` of that package, if there is one.
func (e *Entry) Need(name string) (Need, bool) {
	k := slices.IndexFunc(e.Needs, func(n Need) bool { return n.Package == name })
	if k < 0 {
		return Need{}, false
	}
	return e.Needs[k], true
}

// Feature gives the entry's feature of that name, if there is one.
func (e *Entry) Feature(name string) (Feature, bool) {
	k := slices.IndexFunc(e.Features, func(f Feature) bool { return f.Name == name })
	if k < 0 {
		return Feature{}, false
	}
	return e.Features[k], true
}
