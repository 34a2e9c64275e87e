// Package locks: a choice as a text.
package locks

import (
	"errors"
	"strings"

	"lockstep/catalog"
	"lockstep/lines"
	"lockstep/versions"
)

var (
	errLine      = errors.New("this names no package and version")
	errNoPackage = errors.New("the index has no such package")
	errNoVersion = errors.New("the package has no such version")
)

// Read tells which entries a lock chooses. It looks at nothing else in it: whether the text is a lock to the byte
// is told by writing the lock of that choice and holding it against the text.
func Read(x *catalog.Index, text string) (catalog.Choice, error) {
	choice := make(catalog.Choice, len(x.Packages))
	err := lines.Each(text, func(number int, words []string) error {
		return choose(x, choice, words)
	})
	if err != nil {
		return nil, err
	}
	return choice, nil
}

func choose(x *catalog.Index, choice catalog.Choice, words []string) error {
	if len(words) < 2 {
		return errLine
	}
	place := x.Place(words[0])
	if place < 0 {
		return errNoPackage
	}
	v, err := versions.Parse(words[1])
	if err != nil {
		return err
	}
	entry := x.Packages[place].Find(v)
	if entry == nil {
		return errNoVersion
	}
	choice[place] = entry
	return nil
}

// Write gives the lock of a choice, of whose packages these features are on.
func Write(x *catalog.Index, choice catalog.Choice, features [][]string) string {
	var lock strings.Builder
	for place, entry := range choice {
		if entry == nil {
			continue
		}
		lock.WriteString(x.Packages[place].Name + " " + entry.Version.String())
		for _, name := range features[place] {
			lock.WriteString(" +" + name)
		}
		lock.WriteString("\n")
	}
	return lock.String()
}
