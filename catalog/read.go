package catalog

import (
	"errors"

	"lockstep/api"
	"lockstep/fault"
	"lockstep/lines"
	"lockstep/versions"
)

var (
	errKind  = errors.New("this is no line of an index")
	errAhead = errors.New("there is no package line ahead")
	errAgain = errors.New("a line ahead says this")
	errMany  = errors.New("there are too many of these")
)

// reader takes the lines of an index one by one.
type reader struct {
	index    *Index
	entry    *Entry // the one that began last; nil ahead of the first
	mentions []mention
}

// mention is a line whose names are looked up when all lines are read: what they name may stand behind it.
type mention struct {
	line  int
	entry *Entry
	names namer
}

type namer interface {
	missing(x *Index, e *Entry) error
}

// Read reads an index. Its error is a *fault.Wrong.
func Read(text string) (*Index, error) {
	r := &reader{index: &Index{}}
	if err := lines.Each(text, r.take); err != nil {
		return nil, err
	}
	for _, m := range r.mentions {
		if err := m.names.missing(r.index, m.entry); err != nil {
			return nil, &fault.Wrong{Number: api.ErrName, Line: m.line, Cause: err}
		}
	}
	return r.index, nil
}

func (r *reader) take(number int, words []string) error {
	if words[0] == "package" {
		return r.takePackage(words[1:])
	}
	if r.entry == nil {
		return errAhead
	}
	switch words[0] {
	case "needs":
		return r.takeNeed(number, words[1:])
	case "feature":
		return r.takeFeature(number, words[1:])
	}
	return errKind
}

func (r *reader) takePackage(words []string) error {
	if len(words) != 2 || !lines.IsName(words[0]) {
		return errKind
	}
	v, err := versions.Parse(words[1])
	if err != nil {
		return err
	}
	p, err := r.findOrAdd(words[0])
	if err != nil {
		return err
	}
	if p.Find(v) != nil {
		return errAgain
	}
	if len(p.Entries) == api.MaxVersions {
		return errMany
	}
	r.entry = &Entry{Version: v}
	p.Entries = append(p.Entries, r.entry)
	return nil
}

func (r *reader) findOrAdd(name string) (*Package, error) {
	if place := r.index.Place(name); place >= 0 {
		return r.index.Packages[place], nil
	}
	if len(r.index.Packages) == api.MaxPackages {
		return nil, errMany
	}
	p := &Package{Name: name}
	r.index.Packages = append(r.index.Packages, p)
	return p, nil
}

func (r *reader) takeNeed(number int, words []string) error {
	need, err := parseNeed(words)
	if err != nil {
		return err
	}
	if _, again := r.entry.Need(need.Package); again {
		return errAgain
	}
	if len(r.entry.Needs) == api.MaxNeeds {
		return errMany
	}
	r.entry.Needs = append(r.entry.Needs, need)
	r.mentions = append(r.mentions, mention{number, r.entry, need})
	return nil
}

func (r *reader) takeFeature(number int, words []string) error {
	feature, err := parseFeature(words)
	if err != nil {
		return err
	}
	if _, again := r.entry.Feature(feature.Name); again {
		return errAgain
	}
	if len(r.entry.Features) == api.MaxFeatures {
		return errMany
	}
	r.entry.Features = append(r.entry.Features, feature)
	r.mentions = append(r.mentions, mention{number, r.entry, feature})
	return nil
}
