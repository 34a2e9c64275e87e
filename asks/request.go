package asks

import (
	"errors"

	"lockstep/api"
	"lockstep/fault"
	"lockstep/lines"
)

var (
	errRoot      = errors.New("this is no line of a request")
	errNoPackage = errors.New("the index has no such package")
)

// ReadRequest reads a request, of whose packages has tells whether they are in the index. Its error is a *fault.Wrong.
func ReadRequest(text string, has func(name string) bool) ([]Ask, error) {
	var roots []Ask
	err := lines.Each(text, func(number int, words []string) error {
		root, err := parseRoot(number, words)
		roots = append(roots, root)
		return err
	})
	if err != nil {
		return nil, err
	}
	// Only now: a line that may not be counts more than a name that is not there, wherever they stand.
	for k, root := range roots {
		if !has(root.Package) {
			return nil, &fault.Wrong{Number: api.ErrName, Line: k + 1, Cause: errNoPackage}
		}
	}
	return roots, nil
}

func parseRoot(number int, words []string) (Ask, error) {
	if number > api.MaxRoots {
		return Ask{}, errMany
	}
	if words[0] != "root" {
		return Ask{}, errRoot
	}
	return Parse(words[1:])
}
