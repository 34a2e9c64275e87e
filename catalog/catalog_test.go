package catalog

import (
	"errors"
	"reflect"
	"testing"

	"lockstep/api"
	"lockstep/asks"
	"lockstep/fault"
	"lockstep/versions"
)

func demand(t *testing.T, word string) versions.Demand {
	t.Helper()
	d, err := versions.ParseDemand(word)
	if err != nil {
		t.Fatal(err)
	}
	return d
}

func read(t *testing.T, text string) *Index {
	t.Helper()
	x, err := Read(text)
	if err != nil {
		t.Fatalf("%q: %v", text, err)
	}
	return x
}

func TestReadKeepsAllThatIsSaid(t *testing.T) {
	text := "package a 1.0.0\n" +
		"needs b ^1.2.0 optional bare +x +y +x\n" +
		"needs a *\n" +
		"feature f g dep:b b/x b?/y\n" +
		"feature g\n" +
		"package b 1.4.0\n" +
		"feature x\n" +
		"package a 0.9.12\n" +
		"needs b =1.4.0 bare\n" +
		"needs a * optional +f\n" +
		"package b 0.9.0\n"
	want := &Index{Packages: []*Package{
		{Name: "a", Entries: []*Entry{
			{
				Version: versions.Version{1, 0, 0},
				Needs: []Need{
					{Ask: asks.Ask{Package: "b", Demand: demand(t, "^1.2.0"), Bare: true, Features: []string{"x", "y", "x"}}, Optional: true},
					{Ask: asks.Ask{Package: "a", Demand: demand(t, "*")}},
				},
				Features: []Feature{
					{Name: "f", Items: []Item{{Own, "", "g"}, {Dep, "b", ""}, {With, "b", "x"}, {WithMet, "b", "y"}}},
					{Name: "g"},
				},
			},
			{
				Version: versions.Version{0, 9, 12},
				Needs: []Need{
					{Ask: asks.Ask{Package: "b", Demand: demand(t, "=1.4.0"), Bare: true}},
					{Ask: asks.Ask{Package: "a", Demand: demand(t, "*"), Features: []string{"f"}}, Optional: true},
				},
			},
		}},
		{Name: "b", Entries: []*Entry{
			{Version: versions.Version{1, 4, 0}, Features: []Feature{{Name: "x"}}},
			{Version: versions.Version{0, 9, 0}},
		}},
	}}
	if got := read(t, text); !reflect.DeepEqual(got, want) {
		t.Errorf("got %+v", got)
	}
}

func TestReadOfNothing(t *testing.T) {
	if x := read(t, ""); len(x.Packages) != 0 {
		t.Errorf("%d packages", len(x.Packages))
	}
}

// Keywords are words like others where a NAME stands.
func TestKeywordsAsNames(t *testing.T) {
	x := read(t, "package optional 1.0.0\nneeds optional * optional\nneeds bare * bare +bare\nfeature dep dep dep:optional bare/dep bare?/needs\npackage bare 1.0.0\n")
	e := x.Packages[x.Place("optional")].Entries[0]
	if n, ok := e.Need("bare"); !ok || n.Optional || !n.Bare {
		t.Errorf("needs bare: %+v, %v", n, ok)
	}
	if n, ok := e.Need("optional"); !ok || !n.Optional || n.Bare {
		t.Errorf("needs optional: %+v, %v", n, ok)
	}
}

func TestPlaceAndFind(t *testing.T) {
	x := read(t, "package b 1.0.0\npackage a 2.0.0\nfeature f\npackage b 3.0.0\n")
	for name, place := range map[string]int{"b": 0, "a": 1, "c": -1, "": -1} {
		if got := x.Place(name); got != place || x.Has(name) != (place >= 0) {
			t.Errorf("%q: %d, %v", name, got, x.Has(name))
		}
	}
	b := x.Packages[0]
	if e := b.Find(versions.Version{3, 0, 0}); e == nil || e != b.Entries[1] {
		t.Errorf("b 3.0.0 is %v", e)
	}
	if e := b.Find(versions.Version{2, 0, 0}); e != nil {
		t.Errorf("b 2.0.0 is %v", e)
	}
	if _, ok := b.Entries[0].Need("a"); ok {
		t.Error("b needs nothing")
	}
	if _, ok := b.Entries[0].Feature("g"); ok {
		t.Error("b has no feature g")
	}
}

// What is wrong wraps why it is so.
func TestReadTellsWhy(t *testing.T) {
	p := "package a 1.0.0\n"
	for _, c := range []struct {
		text  string
		cause error
		e     api.Errno
		at    int
	}{
		{"needs a *\n", errAhead, api.ErrLine, 1},
		{"what\n", errAhead, api.ErrLine, 1},
		{p + "what\n", errKind, api.ErrLine, 2},
		{"package a\n", errKind, api.ErrLine, 1},
		{p + p, errAgain, api.ErrLine, 2},
		{p + "needs a *\nneeds a *\n", errAgain, api.ErrLine, 3},
		{p + "feature f\nfeature f\n", errAgain, api.ErrLine, 3},
		{p + "feature f f f f f f f\n", errMany, api.ErrLine, 2},
		{p + "feature\n", errFeature, api.ErrLine, 2},
		{p + "feature f a//b\n", errItem, api.ErrLine, 2},
		{p + "needs b *\n", errNoPackage, api.ErrName, 2},
		{p + "feature f g\n", errNoFeature, api.ErrName, 2},
		{p + "feature f a/g\n", errNoNeed, api.ErrName, 2},
		{p + "feature f dep:a\nneeds a *\n", errNoOptional, api.ErrName, 2},
	} {
		x, err := Read(c.text)
		if e, at := fault.Tell(err); x != nil || e != c.e || at != c.at || !errors.Is(err, c.cause) {
			t.Errorf("%q: %v, %d, %d, %v, want %d, %d, %v", c.text, x, e, at, err, c.e, c.at, c.cause)
		}
	}
}
