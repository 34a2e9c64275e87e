package lockstep

import (
	"strconv"
	"strings"
	"testing"

	"lockstep/api"
)

type resolveCase struct {
	request string
	lock    string
	e       api.Errno
	at      int
}

// runResolves asks twice, for the same texts are answered the same (P2), and lets Check look at what is told.
func runResolves(t *testing.T, index string, cases []resolveCase) {
	t.Helper()
	x, e, _ := Load(index)
	if e != api.OK {
		t.Fatalf("Load(%q): %d", index, e)
	}
	for _, c := range cases {
		for range 2 {
			lock, e, at := x.Resolve(c.request)
			if lock != c.lock || e != c.e || at != c.at {
				t.Errorf("index %.200q: Resolve(%.120q): %q, %d, %d, want %q, %d, %d", index, c.request, lock, e, at, c.lock, c.e, c.at)
			}
			if e != api.OK {
				continue
			}
			if e, at := x.Check(c.request, lock); e != api.OK || at != 0 {
				t.Errorf("index %.200q: Check(%.120q, %q): %d, %d", index, c.request, lock, e, at)
			}
		}
	}
}

func solved(request, lock string) resolveCase { return resolveCase{request, lock, api.OK, 0} }

func unsolved(requests ...string) []resolveCase {
	var cases []resolveCase
	for _, request := range requests {
		cases = append(cases, resolveCase{request, "", api.ErrNone, 0})
	}
	return cases
}

func TestP4Example1(t *testing.T) {
	runResolves(t, example1, []resolveCase{
		solved("root a *\n", "a 1.0.0 +default\nb 1.4.0\n"),
		solved("root a * bare\n", "a 1.0.0\n"),
		solved("root a * bare\nroot b * +x\n", "a 1.0.0\nb 1.4.0 +x\n"),
		solved("root b *\n", "b 1.4.0\n"),
		solved("root b ~0.9.0\n", "b 0.9.0\n"),
	})
	runResolves(t, example1, unsolved("root a >=1.1.0\n", "root a =1.0.0 +b\n"))
}

func TestP4EmptyRequest(t *testing.T) {
	for _, index := range []string{"", a0, example1, a0 + "needs a =2.0.0\n" + b0 + "needs a *\n"} {
		runResolves(t, index, []resolveCase{solved("", "")})
	}
}

// The order of versions is that of their numbers, not that of their texts, nor that of the lines.
func TestP4TheLastVersion(t *testing.T) {
	for _, c := range []struct{ versions, last string }{
		{"1.0.0 2.0.0 1.5.0", "2.0.0"}, {"2.0.0 1.99.99", "2.0.0"}, {"1.9.0 1.10.0", "1.10.0"}, {"1.10.0 1.9.0", "1.10.0"}, {"9.0.0 10.0.0 1.0.0", "10.0.0"},
		{"0.0.9 0.0.10 0.0.1", "0.0.10"}, {"1.0.1 1.0.2 1.0.0 0.9.9", "1.0.2"}, {"0.0.0", "0.0.0"}, {"999.999.998 999.999.999 999.998.999", "999.999.999"},
	} {
		index := ""
		for _, v := range strings.Fields(c.versions) {
			index += "package a " + v + "\n"
		}
		runResolves(t, index, []resolveCase{solved("root a *\n", "a "+c.last+"\n")})
	}
}

func TestP4TheLastVersionThatFits(t *testing.T) {
	index := "package a 1.2.5\npackage a 2.0.0\npackage a 1.0.0\npackage a 1.10.0\n" + b0 + "needs a ~1.2.0\npackage b 0.9.0\nneeds a ^1.0.0\npackage b 0.8.0\nneeds a *\n"
	runResolves(t, index, []resolveCase{
		solved("root a >=1.0.0\n", "a 2.0.0\n"),
		solved("root a ^1.0.0\n", "a 1.10.0\n"),
		solved("root a ~1.2.0\n", "a 1.2.5\n"),
		solved("root a =1.0.0\n", "a 1.0.0\n"),
		solved("root a >=1.0.0\nroot a ^1.2.0\nroot a ~1.10.0\nroot a *\n", "a 1.10.0\n"),
		// a stands first, and so decides: an older b is taken for its sake.
		solved("root b *\n", "a 2.0.0\nb 0.8.0\n"),
		solved("root b >=0.9.0\n", "a 1.10.0\nb 0.9.0\n"),
		solved("root b ^1.0.0\n", "a 1.2.5\nb 1.0.0\n"),
		solved("root b *\nroot a ~1.2.0\n", "a 1.2.5\nb 1.0.0\n"),
	})
	runResolves(t, index, unsolved("root b ^1.0.0\nroot a ^2.0.0\n", "root a ~1.2.0\nroot a =1.0.0\n"))
}

// Not to choose the first package counts more than any version behind it.
func TestP4NotToChooseIsBetter(t *testing.T) {
	runResolves(t, b0+a0+"package a 1.1.0\nneeds b *\n", []resolveCase{
		solved("root a *\n", "a 1.0.0\n"),
		solved("root a >=1.1.0\n", "b 1.0.0\na 1.1.0\n"),
		solved("root a *\nroot b *\n", "b 1.0.0\na 1.1.0\n"),
	})
	runResolves(t, a0+"package a 1.1.0\nneeds b *\n"+b0, []resolveCase{solved("root a *\n", "a 1.1.0\nb 1.0.0\n")})
	// Without b there go three packages more, and old ones.
	index := b0 + "package a 1.0.0\nneeds c *\nneeds d *\nneeds e =1.0.0\npackage a 2.0.0\nneeds b *\npackage c 1.0.0\npackage d 1.0.0\npackage e 2.0.0\npackage e 1.0.0\n"
	runResolves(t, index, []resolveCase{solved("root a *\n", "a 1.0.0\nc 1.0.0\nd 1.0.0\ne 1.0.0\n")})
	// A feature that is asked for may leave only the one with more needs.
	runResolves(t, b0+a0+"package a 0.9.0\nneeds b *\nfeature f\n", []resolveCase{
		solved("root a *\n", "a 1.0.0\n"),
		solved("root a * +f\n", "b 1.0.0\na 0.9.0 +f\n"),
	})
}

func TestP4TheFirstPackageInWhichTheyDiffer(t *testing.T) {
	entries := func(first, second string) string {
		return "package " + first + " 1.0.0\nneeds " + second + " =2.0.0\npackage " + first + " 2.0.0\nneeds " + second + " =1.0.0\n"
	}
	// Of a and b only one can be new: the one that first stands in the index.
	runResolves(t, entries("a", "b")+entries("b", "a"), []resolveCase{solved("root a *\n", "a 2.0.0\nb 1.0.0\n"), solved("root b *\n", "a 2.0.0\nb 1.0.0\n")})
	runResolves(t, entries("b", "a")+entries("a", "b"), []resolveCase{solved("root a *\n", "b 2.0.0\na 1.0.0\n"), solved("root b *\n", "b 2.0.0\na 1.0.0\n")})
	// A package first stands where its first line `package` is: neither a `needs` nor a root counts.
	runResolves(t, "package c 1.0.0\nneeds b *\nneeds a *\n"+entries("a", "b")+entries("b", "a"), []resolveCase{
		solved("root c *\n", "c 1.0.0\na 2.0.0\nb 1.0.0\n"),
		solved("root b *\nroot a *\n", "a 2.0.0\nb 1.0.0\n"),
	})
	// The first is the same in all of them, and the last differs too: the one between decides.
	runResolves(t, "package c 1.0.0\nneeds a *\nneeds b *\n"+entries("b", "d")+a0+"package a 3.0.0\npackage d 1.0.0\npackage d 2.0.0\n", []resolveCase{
		solved("root c *\n", "c 1.0.0\nb 2.0.0\na 3.0.0\nd 1.0.0\n"),
	})
}

func TestP4Default(t *testing.T) {
	// The default of a 2.0.0 cannot be had.
	index := a0 + "feature default\npackage a 2.0.0\nneeds b =2.0.0 optional\nfeature default dep:b\n" + b0 + "package c 1.0.0\nneeds a *\npackage c 2.0.0\nneeds a * bare\npackage c 3.0.0\nneeds a =2.0.0 bare +default\n"
	runResolves(t, index, []resolveCase{
		solved("root a *\n", "a 1.0.0 +default\n"),
		solved("root a * bare\n", "a 2.0.0\n"),
		solved("root a * bare +default\n", "a 1.0.0 +default\n"),
		solved("root a * bare\nroot a *\n", "a 1.0.0 +default\n"),
		solved("root c *\n", "a 2.0.0\nc 2.0.0\n"),
		solved("root c ^1.0.0\n", "a 1.0.0 +default\nc 1.0.0\n"),
		solved("root c ^1.0.0\nroot a * bare\n", "a 1.0.0 +default\nc 1.0.0\n"),
	})
	runResolves(t, index, unsolved("root c ^3.0.0\n", "root a =2.0.0\n", "root c *\nroot a ^2.0.0\n", "root b * +default\n"))
	// No default is asked of a version that has none.
	runResolves(t, a0+"feature default\npackage a 2.0.0\n", []resolveCase{
		solved("root a *\n", "a 2.0.0\n"),
		solved("root a * bare\n", "a 2.0.0\n"),
		solved("root a * +default\n", "a 1.0.0 +default\n"),
	})
}

func TestP4Items(t *testing.T) {
	index := "package a 1.0.0\n" +
		"needs b ^1.0.0 optional bare +p\n" +
		"feature own own2\nfeature own2\nfeature dep dep:b\nfeature with b/q\nfeature withmet b?/q\n" +
		b0 + "feature p\nfeature q r\nfeature r\npackage b 1.1.0\nfeature default\nfeature p\npackage b 2.0.0\nfeature default\n"
	runResolves(t, index, []resolveCase{
		solved("root a *\n", "a 1.0.0\n"),
		solved("root a * +own\n", "a 1.0.0 +own +own2\n"),
		solved("root a * +own2\n", "a 1.0.0 +own2\n"),
		solved("root a * +dep\n", "a 1.0.0 +dep\nb 1.1.0 +p\n"),
		solved("root a * +with\n", "a 1.0.0 +with\nb 1.0.0 +p +q +r\n"),
		solved("root a * +withmet\n", "a 1.0.0 +withmet\n"),
		solved("root a * +withmet +dep\n", "a 1.0.0 +dep +withmet\nb 1.0.0 +p +q +r\n"),
		solved("root a * +withmet\nroot b *\n", "a 1.0.0 +withmet\nb 2.0.0 +default\n"),
		solved("root a * +dep\nroot b *\n", "a 1.0.0 +dep\nb 1.1.0 +default +p\n"),
		solved("root a * +with +own +dep +withmet\n", "a 1.0.0 +dep +own +own2 +with +withmet\nb 1.0.0 +p +q +r\n"),
	})
	runResolves(t, index, unsolved("root a * +dep\nroot b ^2.0.0\n", "root a * +with\nroot b >=1.1.0\n", "root a * +withmet +dep\nroot b >=1.1.0\n", "root a * +r\n"))
}

func TestP4NeedsInRings(t *testing.T) {
	runResolves(t, a0+"needs b =1.0.0\n"+b0+"needs a *\npackage b 2.0.0\n", []resolveCase{
		solved("root b *\n", "b 2.0.0\n"),
		solved("root a *\n", "a 1.0.0\nb 1.0.0\n"),
		solved("root b =1.0.0\n", "a 1.0.0\nb 1.0.0\n"),
	})
	// A version may need its own package.
	runResolves(t, a0+"package a 2.0.0\nneeds a =1.0.0\npackage a 1.5.0\nneeds a ^1.0.0 +f\nfeature f\n", []resolveCase{
		solved("root a *\n", "a 1.5.0 +f\n"),
		solved("root a =1.0.0\n", "a 1.0.0\n"),
	})
	// Two that want one another are not wanted for that.
	runResolves(t, a0+b0+"needs c *\npackage c 1.0.0\nneeds b *\n", []resolveCase{
		solved("root a *\n", "a 1.0.0\n"),
		solved("root c *\n", "b 1.0.0\nc 1.0.0\n"),
	})
}

func TestP5NoSolution(t *testing.T) {
	index := a0 + "needs b ^1.0.0\nneeds c *\nfeature f b/g\n" + b0 + "feature f\npackage b 2.0.0\nfeature g\n" + "package c 1.0.0\nneeds b ^2.0.0\n" +
		"package d 1.0.0\nneeds c * +h\npackage d 2.0.0\nneeds b =3.0.0\npackage e 1.0.0\nneeds e ^2.0.0\npackage e 3.0.0\nneeds a * optional\nfeature default dep:a\n"
	runResolves(t, index, []resolveCase{solved("root c *\n", "b 2.0.0\nc 1.0.0\n"), solved("root e * bare\n", "e 3.0.0\n")})
	runResolves(t, index, unsolved(
		// No version fits: a root, two roots, a `needs`.
		"root b =1.0.1\n", "root b >=2.0.1\n", "root b ~1.1.0\n", "root b ^0.1.0\n", "root b =1.0.0\nroot b =2.0.0\n", "root b *\nroot b ^1.0.0\nroot c *\n", "root d ^2.0.0\n", "root e ^1.0.0\n",
		// No entry has the feature, or none has all of them.
		"root b * +h\n", "root b * +f +g\n", "root b * +f\nroot b * +g\n", "root b ^1.0.0 +g\n", "root c * +b\n", "root d ^1.0.0\n", "root d *\n",
		// Needs exclude each other: at once, or behind an item.
		"root a *\n", "root a * +f\n", "root a * bare\n", "root e *\n", "root e * bare +default\n",
		// One root of several is enough.
		"root c *\nroot b *\nroot e * bare\nroot b * +f\n",
	))
	// An index without solutions has the empty one.
	runResolves(t, a0+"needs a =2.0.0\n", append(unsolved("root a *\n"), solved("", "")))
}

// Each bound at its number, and one past it.
func TestP4BoundsOfARequest(t *testing.T) {
	roots := "root b *\nroot b *\nroot b *\nroot b *\n"
	index := b0 + "feature a\nfeature b\nfeature c\nfeature d\nfeature e\npackage abcdefgh 999.999.999\nfeature abcdefgh\n"
	all := "b 1.0.0 +a +b +c +d +e\n"
	runResolves(t, index, []resolveCase{
		solved(roots, "b 1.0.0\n"),
		{roots + "root b *\n", "", api.ErrLine, 5},
		{roots + "root b *\nwhat\n", "", api.ErrLine, 5},
		{roots + "root b *", "", api.ErrLine, 5},
		{roots + "\n", "", api.ErrLine, 5},
		solved("root b * +a +b +c +d +e\n", all),
		solved("root b * bare +e +d +c +b +a\n", all),
		{"root b * +a +b +c +d +e +a\n", "", api.ErrLine, 1},
		{"root b *\nroot b * bare +a +b +c +d +e +a\n", "", api.ErrLine, 2},
		solved("root abcdefgh =999.999.999 +abcdefgh\n", "abcdefgh 999.999.999 +abcdefgh\n"),
		{"root abcdefghi *\n", "", api.ErrLine, 1},
		{"root b * +abcdefghi\n", "", api.ErrLine, 1},
		{"root b =999.999.1000\n", "", api.ErrLine, 1},
		{strings.Repeat(" ", 3000), "", api.ErrLine, 1},
		{strings.Repeat(" ", 3001), "", api.ErrLong, 0},
		{"root b *\n" + strings.Repeat("x", 2991), "", api.ErrLine, 2},
		{"root b *\n" + strings.Repeat("x", 2992), "", api.ErrLong, 0},
		{"root zz *\nwhat\n" + strings.Repeat("x", 3000), "", api.ErrLong, 0},
		{strings.Repeat(roots, 100000), "", api.ErrLong, 0},
	})
}

func TestP4WrongLines(t *testing.T) {
	runResolves(t, example1, []resolveCase{
		{"root a", "", api.ErrLine, 1},
		{"root a *", "", api.ErrLine, 1},
		{"\n", "", api.ErrLine, 1},
		{"root a *\n\n", "", api.ErrLine, 2},
		{"root a * optional\n", "", api.ErrLine, 1},
		{"root a * +x bare\n", "", api.ErrLine, 1},
		{"root a 1.0.0\n", "", api.ErrLine, 1},
		{"root a  *\n", "", api.ErrLine, 1},
		{"root a *\r\n", "", api.ErrLine, 1},
		{"needs a *\n", "", api.ErrLine, 1},
		// The first of several.
		{"root a *\nwhat\nroot b *\nwhat\n", "", api.ErrLine, 2},
		{"root a *\nroot b *\nroot b\nroot", "", api.ErrLine, 3},
		{"root a *\nroot zz *\nroot yy *\n", "", api.ErrName, 2},
		{"root x *\n", "", api.ErrName, 1},
		{"root a *\nroot b *\nroot a *\nroot default *\n", "", api.ErrName, 4},
		// Lines that may not be are told ahead of names, and both ahead of there being no solution.
		{"root zz *\nroot a\n", "", api.ErrLine, 2},
		{"root zz *\nroot a *", "", api.ErrLine, 2},
		{"root zz *\n" + strings.Repeat("root a *\n", 4), "", api.ErrLine, 5},
		{"root zz * what\n", "", api.ErrLine, 1},
		{"root a >=1.1.0\nroot zz *\n", "", api.ErrName, 2},
		{"root a >=1.1.0\nwhat\n", "", api.ErrLine, 2},
	})
	runResolves(t, "", []resolveCase{{"root a *\n", "", api.ErrName, 1}, {"root\n", "", api.ErrLine, 1}})
}

// inRow makes six packages a to f of four versions 0.0.0 to 3.0.0, each of which goes with its like of the next package only. The oldest f alone has the feature g.
func inRow() string {
	index := ""
	for p := range 6 {
		for v := range 4 {
			version := strconv.Itoa(v) + ".0.0\n"
			index += "package " + string(rune('a'+p)) + " " + version
			if p < 5 {
				index += "needs " + string(rune('b'+p)) + " =" + version
			}
		}
	}
	return strings.Replace(index, "package f 0.0.0\n", "package f 0.0.0\nfeature g\n", 1)
}

func TestP4AnIndexOfAsManyPackagesAsMayBe(t *testing.T) {
	runResolves(t, inRow(), []resolveCase{
		solved("root a *\n", "a 3.0.0\n"+repeat("# 3.0.0\n", 5)),
		solved("root a *\nroot f * +g\n", "a 0.0.0\n"+repeat("# 0.0.0\n", 4)+"f 0.0.0 +g\n"),
		solved("root a *\nroot d =1.0.0\n", "a 1.0.0\n"+repeat("# 1.0.0\n", 5)),
		solved("root f *\nroot d *\n", "d 3.0.0\ne 3.0.0\nf 3.0.0\n"),
	})
	runResolves(t, inRow(), unsolved("root a >=1.0.0\nroot f * +g\n", "root a *\nroot f =4.0.0\n", "root a =1.0.0\nroot f =2.0.0\n"))
}

func TestP4AnEntryOfAsManyLinesAsMayBe(t *testing.T) {
	index := a0 + repeat("needs # * optional\n", 5) +
		"feature v w x y z v\nfeature w dep:b dep:c dep:d dep:e dep:f\nfeature x b/g c/g d/g e/g f/g\nfeature y b?/h c?/h d?/h e?/h f?/h\nfeature z\n" +
		repeat("package # 1.0.0\nfeature g\nfeature h\n", 5)
	runResolves(t, index, []resolveCase{
		solved("root a * +v\n", "a 1.0.0 +v +w +x +y +z\n"+repeat("# 1.0.0 +g +h\n", 5)),
		solved("root a * +x\n", "a 1.0.0 +x\n"+repeat("# 1.0.0 +g\n", 5)),
		solved("root a * +w +y\n", "a 1.0.0 +w +y\n"+repeat("# 1.0.0 +h\n", 5)),
		solved("root a * +y +z\n", "a 1.0.0 +y +z\n"),
	})
}

func TestP4TheLongestIndex(t *testing.T) {
	index := long() + "feature abcdefg1\nfeature abcdefg2\nfeature abcdefg3\nfeature abcdefg4\nfeature abcdef\n"
	if len(index) != api.MaxText {
		t.Errorf("the index has %d bytes", len(index))
	}
	runResolves(t, index, []resolveCase{solved("root b * +abcdef +abcdefg4\nroot g *\n", "b 1.0.1 +abcdef +abcdefg4\ng 1.0.0\n")})
	runResolves(t, index, unsolved("root b * +abcdefgh\n"))
}

// One call leaves nothing behind for the next, nor for another index (P2).
func TestP2ResolvesDoNotHangOnEachOther(t *testing.T) {
	x, _, _ := Load("package a 1.0.0\npackage a 1.2.0\npackage a 1.1.0\n" + b0 + "needs a ~1.1.0\n")
	y, _, _ := Load("package a 1.0.0\npackage a 1.0.1\n" + b0)
	for range 3 {
		for _, c := range []struct {
			index *Index
			resolveCase
		}{
			{x, solved("root b *\n", "a 1.1.0\nb 1.0.0\n")},
			{y, solved("root b *\n", "b 1.0.0\n")},
			{x, solved("root a *\n", "a 1.2.0\n")},
			{x, resolveCase{"root b *\nroot a >=1.2.0\n", "", api.ErrNone, 0}},
			{x, resolveCase{"root b *\nroot\n", "", api.ErrLine, 2}},
			{y, solved("root a *\n", "a 1.0.1\n")},
			{x, solved("", "")},
		} {
			if lock, e, at := c.index.Resolve(c.request); lock != c.lock || e != c.e || at != c.at {
				t.Errorf("Resolve(%q): %q, %d, %d", c.request, lock, e, at)
			}
			if e, at := x.Check("root b *\n", "a 1.1.0\nb 1.0.0\n"); e != api.OK || at != 0 {
				t.Errorf("Check behind Resolve(%q): %d, %d", c.request, e, at)
			}
		}
	}
}
