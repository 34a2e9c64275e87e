package best

import (
	"reflect"
	"slices"
	"testing"

	"lockstep/asks"
	"lockstep/catalog"
)

func read(t *testing.T, index, request string) (*catalog.Index, []asks.Ask) {
	t.Helper()
	x, err := catalog.Read(index)
	if err != nil {
		t.Fatal(err)
	}
	roots, err := asks.ReadRequest(request, x.Has)
	if err != nil {
		t.Fatal(err)
	}
	return x, roots
}

func TestOptionsTheBetterOnesFirst(t *testing.T) {
	x, _ := read(t, "package a 1.9.0\npackage a 1.10.0\npackage a 0.99.99\npackage a 1.9.1\n", "")
	e := x.Packages[0].Entries
	before := slices.Clone(e)
	if got, want := options(x.Packages[0]), []*catalog.Entry{nil, e[1], e[3], e[0], e[2]}; !slices.Equal(got, want) {
		t.Errorf("%v, want %v", got, want)
	}
	if !slices.Equal(x.Packages[0].Entries, before) {
		t.Error("the index was changed")
	}
}

func TestSolution(t *testing.T) {
	x, roots := read(t, "package c 1.0.0\npackage b 1.0.0\nfeature g\nfeature f\npackage b 2.0.0\npackage a 1.0.0\nneeds b ^1.0.0 +g +f\npackage a 2.0.0\nneeds b ^3.0.0\n", "root a *\n")
	choice, features, ok := Solution(x, roots)
	want := catalog.Choice{nil, x.Packages[1].Entries[0], x.Packages[2].Entries[0]}
	if !ok || !slices.Equal(choice, want) || !reflect.DeepEqual(features, [][]string{nil, {"f", "g"}, nil}) {
		t.Errorf("%v, %v, %v", choice, features, ok)
	}
}

func TestNoSolution(t *testing.T) {
	for _, request := range []string{"root a =2.0.0\n", "root a * +f\n", "root b =1.0.0\nroot a *\n"} {
		x, roots := read(t, "package b 1.0.0\npackage b 1.1.0\npackage a 1.0.0\nneeds b =1.1.0\n", request)
		if choice, features, ok := Solution(x, roots); ok || choice != nil || features != nil {
			t.Errorf("%q: %v, %v, %v", request, choice, features, ok)
		}
	}
}

func TestSolutionOfNothing(t *testing.T) {
	for _, index := range []string{"", "package a 1.0.0\npackage b 1.0.0\n"} {
		x, roots := read(t, index, "")
		choice, _, ok := Solution(x, roots)
		if !ok || len(choice) != len(x.Packages) || slices.ContainsFunc(choice, func(e *catalog.Entry) bool { return e != nil }) {
			t.Errorf("%q: %v, %v", index, choice, ok)
		}
	}
}
