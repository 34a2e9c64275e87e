package follow

import (
	"container/heap"
	"reflect"
	"slices"
	"testing"

	"lockstep/asks"
	"lockstep/catalog"
)

// The heap gives back all facts that it was given, the least first, in whatever order they came.
func TestTodoIsAHeap(t *testing.T) {
	rising := []fact{
		{wanted, 0, ""}, {wanted, 5, ""},
		{met, 0, "b"}, {met, 0, "c"}, {met, 1, "a"},
		{on, 0, "b"}, {on, 0, "b1"}, {on, 0, "bb"}, {on, 3, "a"},
	}
	for step := 1; step < len(rising); step++ {
		var waiting todo
		// Steps of every length from several starts, so that each fact comes ahead of each other one in some round.
		for start := range step {
			for k := start; k < len(rising); k += step {
				heap.Push(&waiting, rising[len(rising)-1-k])
			}
		}
		var got []fact
		for waiting.Len() > 0 {
			got = append(got, heap.Pop(&waiting).(fact))
		}
		if !slices.Equal(got, rising) {
			t.Errorf("step %d: %v", step, got)
		}
	}
}

func read(t *testing.T, index, request string) (*catalog.Index, []asks.Ask) {
	t.Helper()
	x, err := catalog.Read(index)
	if err != nil {
		t.Fatal(err)
	}
	roots, err := asks.ReadRequest(request, x.Has)
	if err != nil {
		t.Fatal(err)
	}
	return x, roots
}

// firsts chooses the first entry of each package.
func firsts(x *catalog.Index) catalog.Choice {
	var choice catalog.Choice
	for _, p := range x.Packages {
		choice = append(choice, p.Entries[0])
	}
	return choice
}

func TestFeaturesByPackageAndRising(t *testing.T) {
	x, roots := read(t, "package b 1.0.0\nneeds a *\nfeature z\npackage c 1.0.0\npackage a 1.0.0\nfeature bb\nfeature b\nfeature b1\nfeature x\n", "root b * +z\nroot a * +bb +b1 +b +bb\n")
	choice := firsts(x)
	choice[1] = nil
	got, ok := Features(x, choice, roots)
	if want := [][]string{{"z"}, nil, {"b", "b1", "bb"}}; !ok || !reflect.DeepEqual(got, want) {
		t.Errorf("%v, %v, want %v", got, ok, want)
	}
}

func TestNoSolutionHasNoFeatures(t *testing.T) {
	for _, c := range []struct{ why, index, request string }{
		{"chosen and not wanted", "package a 1.0.0\npackage b 1.0.0\n", "root a *\n"},
		{"does not fit a root", "package a 1.0.0\n", "root a *\nroot a >=1.0.1\n"},
		{"does not fit a need", "package a 1.0.0\nneeds b =1.0.1\npackage b 1.0.0\n", "root a *\n"},
		{"feature of a root", "package a 1.0.0\n", "root a * +f\n"},
		{"feature of a need", "package a 1.0.0\nneeds b * +f\npackage b 1.0.0\n", "root a *\n"},
		{"feature of an item", "package a 1.0.0\nneeds b *\nfeature default b?/f\npackage b 1.0.0\n", "root a *\n"},
	} {
		x, roots := read(t, c.index, c.request)
		if got, ok := Features(x, firsts(x), roots); ok || got != nil {
			t.Errorf("%s: %v, %v", c.why, got, ok)
		}
	}
}

func TestWantedAndNotChosen(t *testing.T) {
	for _, c := range []struct{ why, index, request string }{
		{"by a root", "package b 1.0.0\npackage a 1.0.0\n", "root b *\nroot a *\n"},
		{"by a need", "package b 1.0.0\nneeds a *\npackage a 1.0.0\n", "root b *\n"},
		{"by dep:", "package b 1.0.0\nneeds a * optional\nfeature default dep:a\npackage a 1.0.0\n", "root b *\n"},
		{"by P/F", "package b 1.0.0\nneeds a * optional\nfeature default a/f\npackage a 1.0.0\nfeature f\n", "root b *\n"},
	} {
		x, roots := read(t, c.index, c.request)
		if got, ok := Features(x, catalog.Choice{x.Packages[0].Entries[0], nil}, roots); ok || got != nil {
			t.Errorf("%s: %v, %v", c.why, got, ok)
		}
	}
}

// Of the first package alone: what is wrong already, and what the packages behind may still bring.
func TestPossible(t *testing.T) {
	for _, c := range []struct {
		why, index, request string
		chosen, ok          bool
	}{
		{"not chosen, and nothing is known to want it", "package a 1.0.0\npackage b 1.0.0\nneeds a *\n", "root b *\n", false, true},
		{"not chosen, but a root wants it", "package a 1.0.0\npackage b 1.0.0\n", "root b *\nroot a *\n", false, false},
		{"chosen, and one behind may want it", "package a 1.0.0\npackage b 1.0.0\n", "root b *\n", true, true},
		{"does not fit a root", "package a 1.0.0\npackage b 1.0.0\n", "root b *\nroot a =2.0.0\n", true, false},
		{"has not the feature of a root", "package a 1.0.0\npackage b 1.0.0\n", "root a * +f\n", true, false},
		{"does not fit its own need", "package a 1.0.0\nneeds a =2.0.0\npackage b 1.0.0\n", "root a *\n", true, false},
		{"does not fit its own need, but is not known to be wanted", "package a 1.0.0\nneeds a =2.0.0\npackage b 1.0.0\n", "root b *\n", true, true},
		{"an open one fits no root", "package a 1.0.0\npackage b 1.0.0\n", "root a *\nroot b =2.0.0 +f\n", true, true},
		{"an open one fits no need", "package a 1.0.0\nneeds b =2.0.0 +f\npackage b 1.0.0\n", "root a *\n", true, true},
		{"items of an open one", "package a 1.0.0\nneeds b * optional\nfeature f b/g\nfeature g b?/g\nfeature h dep:b\npackage b 1.0.0\n", "root a * +f +g +h\n", true, true},
		{"an own item behind an open one", "package a 1.0.0\nneeds a * optional\nneeds b * optional\nfeature f b/g a?/q\nfeature z dep:a\npackage b 1.0.0\n", "root a * +f +z\n", true, false},
	} {
		x, roots := read(t, c.index, c.request)
		choice := catalog.Choice{nil}
		if c.chosen {
			choice[0] = x.Packages[0].Entries[0]
		}
		if ok := Possible(x, choice, roots); ok != c.ok {
			t.Errorf("%s: %v", c.why, ok)
		}
	}
}

func TestNothingDecidedIsPossible(t *testing.T) {
	x, roots := read(t, "package a 1.0.0\nneeds a =2.0.0\n", "root a =3.0.0 +f\n")
	if !Possible(x, catalog.Choice{}, roots) {
		t.Error("nothing is decided, and something is wrong")
	}
}
