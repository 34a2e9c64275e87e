// Package lockstep: versions of packages that go together: see DOC.md.
package lockstep

import (
	"lockstep/api"
	"lockstep/asks"
	"lockstep/best"
	"lockstep/catalog"
	"lockstep/fault"
	"lockstep/follow"
	"lockstep/locks"
	"lockstep/versions"
)

// Index is what packages there are.
type Index struct {
	catalog *catalog.Index
}

// Load reads an index (P3).
func Load(text string) (*Index, api.Errno, int) {
	read, err := catalog.Read(text)
	if err != nil {
		number, line := fault.Tell(err)
		return nil, number, line
	}
	return &Index{catalog: read}, api.OK, 0
}

// Resolve tells the best solution (P4, P5).
func (x *Index) Resolve(request string) (string, api.Errno, int) {
	roots, err := asks.ReadRequest(request, x.catalog.Has)
	if err != nil {
		number, line := fault.Tell(err)
		return "", number, line
	}
	choice, features, ok := best.Solution(x.catalog, roots)
	if !ok {
		return "", api.ErrNone, 0
	}
	return locks.Write(x.catalog, choice, features), api.OK, 0
}

// Check looks whether a lock is a solution (P6).
func (x *Index) Check(request string, lock string) (api.Errno, int) {
	roots, err := asks.ReadRequest(request, x.catalog.Has)
	if err != nil {
		return fault.Tell(err)
	}
	choice, err := locks.Read(x.catalog, lock)
	if err != nil {
		return api.ErrWrong, 0
	}
	features, ok := follow.Features(x.catalog, choice, roots)
	if !ok || locks.Write(x.catalog, choice, features) != lock {
		return api.ErrWrong, 0
	}
	return api.OK, 0
}

// Fits tells whether a version fits what is asked of it (P7).
func Fits(version string, asked string) (bool, api.Errno) {
	v, err := versions.Parse(version)
	if err != nil {
		return false, api.ErrLine
	}
	demand, err := versions.ParseDemand(asked)
	if err != nil {
		return false, api.ErrLine
	}
	return demand.Fits(v), api.OK
}
