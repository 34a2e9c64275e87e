package asks

import (
	"errors"
	"reflect"
	"strings"
	"testing"

	"lockstep/api"
	"lockstep/fault"
	"lockstep/versions"
)

func demand(t *testing.T, word string) versions.Demand {
	t.Helper()
	d, err := versions.ParseDemand(word)
	if err != nil {
		t.Fatal(err)
	}
	return d
}

func TestParse(t *testing.T) {
	for _, c := range []struct {
		line string
		want Ask
	}{
		{"a *", Ask{Package: "a"}},
		{"bare * bare", Ask{Package: "bare", Bare: true}},
		{"a ^1.2.3 +x", Ask{Package: "a", Demand: demand(t, "^1.2.3"), Features: []string{"x"}}},
		{"a =0.0.0 bare +bare +x +x +y +z", Ask{Package: "a", Demand: demand(t, "=0.0.0"), Bare: true, Features: []string{"bare", "x", "x", "y", "z"}}},
	} {
		if got, err := Parse(strings.Split(c.line, " ")); err != nil || !reflect.DeepEqual(got, c.want) {
			t.Errorf("%q: %+v, %v", c.line, got, err)
		}
	}
}

func TestParseRefuses(t *testing.T) {
	for _, c := range []struct {
		line  string
		cause error
	}{
		{"", errAsk}, {"a", errAsk}, {"A *", errAsk}, {" a *", errAsk},
		{"a * x", errFeature}, {"a * optional", errFeature}, {"a * bare bare", errFeature}, {"a * +x bare", errFeature}, {"a * +", errFeature}, {"a * +X", errFeature}, {"a * ", errFeature}, {"a * +x ", errFeature},
		{"a * +a +b +c +d +e +f", errMany}, {"a * bare +a +b +c +d +e +f", errMany},
	} {
		if got, err := Parse(strings.Split(c.line, " ")); !errors.Is(err, c.cause) || !reflect.DeepEqual(got, Ask{}) {
			t.Errorf("%q: %+v, %v, want %v", c.line, got, err, c.cause)
		}
	}
	for _, line := range []string{"a a", "a 1.0.0", "a >1.0.0", "a  *"} {
		if got, err := Parse(strings.Split(line, " ")); err == nil || !reflect.DeepEqual(got, Ask{}) {
			t.Errorf("%q: %+v, %v", line, got, err)
		}
	}
}

func isAOrB(name string) bool { return name == "a" || name == "b" }

func TestReadRequest(t *testing.T) {
	for _, c := range []struct {
		text string
		want []Ask
	}{
		{"", nil},
		{"root a *\n", []Ask{{Package: "a"}}},
		{"root b * bare\nroot a * +x\nroot b * bare\n", []Ask{{Package: "b", Bare: true}, {Package: "a", Features: []string{"x"}}, {Package: "b", Bare: true}}},
	} {
		if got, err := ReadRequest(c.text, isAOrB); err != nil || !reflect.DeepEqual(got, c.want) {
			t.Errorf("%q: %+v, %v", c.text, got, err)
		}
	}
}

// What is wrong wraps why it is so.
func TestReadRequestTellsWhy(t *testing.T) {
	a := "root a *\n"
	for _, c := range []struct {
		text  string
		cause error
		e     api.Errno
		at    int
	}{
		{"a *\n", errRoot, api.ErrLine, 1},
		{"\n", errRoot, api.ErrLine, 1},
		{"root\n", errAsk, api.ErrLine, 1},
		{a + "roots a *\n", errRoot, api.ErrLine, 2},
		{a + a + a + a + a, errMany, api.ErrLine, 5},
		{a + a + a + a + "root c *\n" + a, errMany, api.ErrLine, 5},
		{a + "root c *\nroot d *\n", errNoPackage, api.ErrName, 2},
		{"root c *\n" + a + "root a * x\n", errFeature, api.ErrLine, 3},
	} {
		roots, err := ReadRequest(c.text, isAOrB)
		if e, at := fault.Tell(err); roots != nil || e != c.e || at != c.at || !errors.Is(err, c.cause) {
			t.Errorf("%q: %v, %d, %d, %v, want %d, %d, %v", c.text, roots, e, at, err, c.e, c.at, c.cause)
		}
	}
}
