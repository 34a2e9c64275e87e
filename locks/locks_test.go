package locks

import (
	"errors"
	"slices"
	"strings"
	"testing"

	"lockstep/catalog"
)

func index(t *testing.T) *catalog.Index {
	t.Helper()
	x, err := catalog.Read("package b 1.0.0\npackage a 1.0.0\npackage b 1.10.0\npackage c 0.0.1\n")
	if err != nil {
		t.Fatal(err)
	}
	return x
}

func TestReadTellsTheChoice(t *testing.T) {
	x := index(t)
	b, a, c := x.Packages[0].Entries, x.Packages[1].Entries, x.Packages[2].Entries
	for _, k := range []struct {
		text string
		want catalog.Choice
	}{
		{"", catalog.Choice{nil, nil, nil}},
		{"b 1.0.0\n", catalog.Choice{b[0], nil, nil}},
		{"b 1.10.0 +f\nc 0.0.1\n", catalog.Choice{b[1], nil, c[0]}},
		{"b 1.10.0\na 1.0.0\nc 0.0.1 +f +g\n", catalog.Choice{b[1], a[0], c[0]}},
	} {
		if got, err := Read(x, k.text); err != nil || !slices.Equal(got, k.want) {
			t.Errorf("%q: %v, %v", k.text, got, err)
		}
	}
}

func TestReadRefuses(t *testing.T) {
	x := index(t)
	for _, k := range []struct {
		text  string
		cause error
	}{
		{"\n", errLine}, {"b\n", errLine}, {"b 1.0.0\na\n", errLine},
		{"d 1.0.0\n", errNoPackage}, {" b 1.0.0\n", errNoPackage}, {"+ 1.0.0\n", errNoPackage},
		{"b 1.1.0\n", errNoVersion}, {"a 1.10.0\n", errNoVersion},
	} {
		if got, err := Read(x, k.text); got != nil || !errors.Is(err, k.cause) {
			t.Errorf("%q: %v, %v, want %v", k.text, got, err, k.cause)
		}
	}
	for _, text := range []string{"b 1.0.0", "b 1.0\n", "b  1.0.0\n", "b 01.0.0\n", "b =1.0.0\n", strings.Repeat("b 1.0.0\n", 1000)} {
		if got, err := Read(x, text); got != nil || err == nil {
			t.Errorf("%.30q: %v, %v", text, got, err)
		}
	}
}

func TestWrite(t *testing.T) {
	x := index(t)
	b, c := x.Packages[0].Entries, x.Packages[2].Entries
	for _, k := range []struct {
		choice   catalog.Choice
		features [][]string
		want     string
	}{
		{catalog.Choice{nil, nil, nil}, [][]string{nil, nil, nil}, ""},
		{catalog.Choice{b[1], nil, c[0]}, [][]string{{"f", "g"}, nil, nil}, "b 1.10.0 +f +g\nc 0.0.1\n"},
	} {
		if got := Write(x, k.choice, k.features); got != k.want {
			t.Errorf("%q, want %q", got, k.want)
		}
	}
}
