package lockstep

import (
	"strings"
	"testing"

	"lockstep/api"
)

const (
	a0 = "package a 1.0.0\n"
	b0 = "package b 1.0.0\n"

	example1 = "package a 1.0.0\nneeds b ^1.2.0 optional\nfeature default dep:b\npackage a 1.1.0\nneeds b >=2.0.0\npackage b 1.4.0\nfeature x\npackage b 0.9.0\n"
)

type loadCase struct {
	text string
	e    api.Errno
	at   int
}

func checkLoads(t *testing.T, cases []loadCase) {
	t.Helper()
	for _, c := range cases {
		x, e, at := Load(c.text)
		if (x != nil) != (c.e == api.OK) || e != c.e || at != c.at {
			t.Errorf("Load(%.120q): %v, %d, %d, want %d, %d", c.text, x != nil, e, at, c.e, c.at)
		}
	}
}

func accepted(texts ...string) []loadCase {
	var cases []loadCase
	for _, text := range texts {
		cases = append(cases, loadCase{text, api.OK, 0})
	}
	return cases
}

// refused are lines that may not stand behind a whole first line.
func refused(lines ...string) []loadCase {
	var cases []loadCase
	for _, line := range lines {
		cases = append(cases, loadCase{a0 + line + "\n", api.ErrLine, 2})
	}
	return cases
}

// repeat makes n lines, in each of which # is another name.
func repeat(line string, n int) string {
	var s strings.Builder
	for k := range n {
		s.WriteString(strings.ReplaceAll(line, "#", string(rune('b'+k))))
	}
	return s.String()
}

func TestP3Accepts(t *testing.T) {
	checkLoads(t, accepted(
		"", a0, example1,
		a0+b0+"package a 1.0.1\n",
		"package abcdefgh 999.999.999\n",
		"package a1234567 0.0.0\n",
		a0+"needs a *\n",
		a0+"needs b *\n"+b0,
		b0+a0+"needs b *\n",
		a0+"needs b >=0.0.1 optional\n"+b0,
		a0+"needs b ~0.0.1 bare\n"+b0,
		a0+"needs b ^0.0.1 +x\n"+b0,
		a0+"needs b =0.0.1 optional bare\n"+b0,
		a0+"needs b * optional +x\n"+b0,
		a0+"needs b * bare +x +x\n"+b0,
		a0+"needs b * optional bare +x +y\n"+b0,
		a0+"needs b *\nneeds a *\n"+b0,
		a0+"feature f\n",
		a0+"feature f f\n",
		a0+"feature f g g\nfeature g f\n",
		a0+"feature a\nneeds a *\n",
		a0+"feature f dep:b\nneeds b * optional\n"+b0,
		a0+"feature f b/x\nneeds b *\n"+b0,
		a0+"feature f b/x b?/x\nneeds b * optional\n"+b0,
		a0+"feature f b?/x\nneeds b *\n"+b0,
		a0+"feature f\nneeds a *\npackage a 1.0.1\nfeature f\nneeds a *\n",
		"package package 1.0.0\nneeds package *\nfeature feature\n",
	))
}

func TestP3RefusesLinesOfNoKind(t *testing.T) {
	checkLoads(t, refused("", " ", "what", "# what", "root a *", "a 1.0.1", "packages b 1.0.0", "PACKAGE b 1.0.0", "Needs a *", "features f"))
}

func TestP3RefusesPackageLines(t *testing.T) {
	checkLoads(t, refused(
		"package", "package ", "package b", "package b ", "package 1.0.0",
		"package b 1.0", "package b 1.0.0.0", "package b =1.0.0", "package b *", "package b 01.0.0", "package b 1000.0.0",
		"package b 1.0.0 ", " package b 1.0.0", "package  b 1.0.0", "package b  1.0.0", "package\tb 1.0.0", "package b 1.0.0\r", "package b 1.0.0 x",
		"package B 1.0.0", "package 1b 1.0.0", "package b_c 1.0.0", "package b\x00 1.0.0", "package é 1.0.0", "package bcdefghij 1.0.0",
	))
}

func TestP3RefusesNeedsLines(t *testing.T) {
	checkLoads(t, refused(
		"needs", "needs ", "needs a", "needs a ", "needs *", "needs a 1.0.0", "needs a >1.0.0", "needs a =1.0", "needs a ^1000.0.0",
		"needs A *", "needs abcdefghi *", "needs a * ", "needs a  *", " needs a *", "needs a * what",
		"needs a * +", "needs a * ++x", "needs a * +X", "needs a * x", "needs a * +abcdefghi", "needs a * +x +", "needs a * +x  +y", "needs a * +x+y",
		"needs a * bare optional", "needs a * optional optional", "needs a * bare bare", "needs a * +x optional", "needs a * +x bare", "needs a * Optional", "needs a * optional bare x",
	))
}

func TestP3RefusesFeatureLines(t *testing.T) {
	checkLoads(t, refused(
		"feature", "feature ", "feature F", "feature 1", "feature abcdefghi", "feature f ", "feature f  f", " feature f",
		"feature f F", "feature f +f", "feature f abcdefghi",
		"feature f dep:", "feature f dep:A", "feature f dep:a?", "feature f dep:a/x", "feature f dep:dep:a", "feature f dep:abcdefghi", "feature f :a", "feature f Dep:a",
		"feature f a/", "feature f /x", "feature f /", "feature f a//x", "feature f a/x/y", "feature f a/abcdefghi", "feature f abcdefghi/x",
		"feature f a?", "feature f ?/x", "feature f a??/x", "feature f a/x?", "feature f a/?x", "feature f a?/", "feature f abcdefghi?/x",
	))
}

func TestP3NoPackageLineAhead(t *testing.T) {
	checkLoads(t, []loadCase{
		{"needs a *\n", api.ErrLine, 1},
		{"needs a *\n" + a0, api.ErrLine, 1},
		{"feature f\n", api.ErrLine, 1},
		{"feature f\n" + a0, api.ErrLine, 1},
		{"\n" + a0, api.ErrLine, 1},
	})
}

func TestP3SaidAgain(t *testing.T) {
	checkLoads(t, []loadCase{
		{a0 + a0, api.ErrLine, 2},
		{a0 + b0 + a0, api.ErrLine, 3},
		{a0 + "needs b *\n" + b0 + b0, api.ErrLine, 4},
		{a0 + "needs a *\nneeds a *\n", api.ErrLine, 3},
		{a0 + "needs b * optional\nneeds a *\nneeds b =1.0.0 bare +x\n" + b0, api.ErrLine, 4},
		{a0 + "feature f\nfeature f\n", api.ErrLine, 3},
		{a0 + "feature f\nfeature g\nneeds a *\nfeature f g\n", api.ErrLine, 5},
	})
}

func TestP3LineFeeds(t *testing.T) {
	checkLoads(t, []loadCase{
		{"package a 1.0.0", api.ErrLine, 1},
		{"package a 1.0", api.ErrLine, 1},
		{a0 + "feature f", api.ErrLine, 2},
		{a0 + "p", api.ErrLine, 2},
		{a0 + "\n", api.ErrLine, 2},
		{a0 + "\n" + b0, api.ErrLine, 2},
		{"\n", api.ErrLine, 1},
		{" ", api.ErrLine, 1},
		{"package a 1.0.0\r\n", api.ErrLine, 1},
	})
}

// Each bound at its number, and one past it.
func TestP3Bounds(t *testing.T) {
	packages := repeat("package # 1.0.0\n", 6)
	versions := "package a 1.0.0\npackage a 1.0.1\npackage a 1.0.2\npackage a 1.0.3\n"
	needs := "package b 1.0.0\n" + repeat("needs # *\n", 5)
	features := a0 + repeat("feature #\n", 5)
	checkLoads(t, []loadCase{
		{packages, api.OK, 0},
		{packages + "package b 1.0.1\n", api.OK, 0},
		{packages + "package a 1.0.0\n", api.ErrLine, 7},
		{packages + "package b 1.0.1\npackage a 1.0.0\n", api.ErrLine, 8},
		{versions, api.OK, 0},
		{versions + "package b 1.0.0\n", api.OK, 0},
		{versions + "package a 1.0.4\n", api.ErrLine, 5},
		{versions + "package b 1.0.0\npackage a 0.0.1\n", api.ErrLine, 6},
		{needs + packages[len("package b 1.0.0\n"):], api.OK, 0},
		{needs + "package b 1.0.1\nneeds g *\n" + packages[len("package b 1.0.0\n"):], api.OK, 0},
		{needs + "needs g *\n" + packages[len("package b 1.0.0\n"):], api.ErrLine, 7},
		{needs + "feature f\n" + packages[len("package b 1.0.0\n"):], api.OK, 0},
		{features, api.OK, 0},
		{features + "package a 1.0.1\nfeature g\n", api.OK, 0},
		{features + "feature g\n", api.ErrLine, 7},
		{features + "needs a *\n", api.OK, 0},
		{a0 + "feature f f f f f f\n", api.OK, 0},
		{a0 + "feature f f f f f f f\n", api.ErrLine, 2},
		{a0 + "needs a * +a +b +c +d +e\n", api.OK, 0},
		{a0 + "needs a * +a +b +c +d +e +f\n", api.ErrLine, 2},
		{a0 + "needs a * optional bare +a +b +c +d +e\n", api.OK, 0},
		{a0 + "needs a * optional bare +a +b +c +d +e +f\n", api.ErrLine, 2},
		{"package abcdefgh 1.0.0\n", api.OK, 0},
		{"package abcdefghi 1.0.0\n", api.ErrLine, 1},
		{"package a 999.999.999\n", api.OK, 0},
		{"package a 999.999.1000\n", api.ErrLine, 1},
	})
}

// long is an index of 2917 bytes, to which features of its last entry may be added.
func long() string {
	need := "needs # =100.100.100 optional bare +abcdefgh +abcdefgh +abcdefgh +abcdefgh +abcdefgh\n"
	return repeat("package # 1.0.0\n"+repeat(need, 5), 6) + "package b 1.0.1\n" + repeat(need, 3)
}

func TestP3LongTexts(t *testing.T) {
	full := long() + "feature abcdefg1\nfeature abcdefg2\nfeature abcdefg3\nfeature abcdefg4\nfeature "
	checkLoads(t, []loadCase{
		{full + "abcdef\n", api.OK, 0},
		{full + "abcdefg\n", api.ErrLong, 0},
		{strings.Repeat("x", 3000), api.ErrLine, 1},
		{strings.Repeat("x", 3001), api.ErrLong, 0},
		{strings.Repeat("\n", 3000), api.ErrLine, 1},
		{strings.Repeat("\n", 3001), api.ErrLong, 0},
		{a0 + "needs zz *\n" + strings.Repeat(" ", 3000), api.ErrLong, 0},
		{strings.Repeat(a0, 1000000), api.ErrLong, 0},
	})
	if n := len(full + "abcdef\n"); n != api.MaxText {
		t.Errorf("the longest index has %d bytes", n)
	}
}

func TestP3NamesThatAreNotThere(t *testing.T) {
	checkLoads(t, []loadCase{
		{a0 + "needs b *\n", api.ErrName, 2},
		{a0 + "needs b * optional\n", api.ErrName, 2},
		{a0 + "needs a *\npackage b 1.0.0\nneeds c *\n", api.ErrName, 4},
		{a0 + "feature b\nneeds b *\n", api.ErrName, 3},
		{a0 + "feature f g\n", api.ErrName, 2},
		{a0 + "feature f dep\n", api.ErrName, 2},
		{a0 + "feature f f g\n", api.ErrName, 2},
		{a0 + "feature f a\nneeds a * optional\n", api.ErrName, 2},
		{a0 + "feature f g\npackage a 1.0.1\nfeature g\n", api.ErrName, 2},
		{a0 + "feature g\npackage a 1.0.1\nfeature f g\n", api.ErrName, 4},
		{a0 + "feature f dep:b\n", api.ErrName, 2},
		{a0 + "feature f dep:b\n" + b0, api.ErrName, 2},
		{a0 + "feature f dep:b\nneeds b *\n" + b0, api.ErrName, 2},
		{a0 + "feature f dep:b\nneeds b * bare\n" + b0, api.ErrName, 2},
		{a0 + "needs b * optional\npackage a 1.0.1\nneeds b *\nfeature f dep:b\n" + b0, api.ErrName, 5},
		{a0 + "feature f b/x\n" + b0, api.ErrName, 2},
		{a0 + "feature f b?/x\n" + b0, api.ErrName, 2},
		{a0 + "feature f a/x\n", api.ErrName, 2},
		{a0 + "feature f b/x\npackage a 1.0.1\nneeds b *\n" + b0, api.ErrName, 2},
	})
}

func TestP3FirstLineOfSeveral(t *testing.T) {
	checkLoads(t, []loadCase{
		{"what\nwhat\n", api.ErrLine, 1},
		{a0 + "what\n" + a0 + "package", api.ErrLine, 2},
		{a0 + a0 + "what\n", api.ErrLine, 2},
		{a0 + "needs zz *\nfeature f g\n", api.ErrName, 2},
		{a0 + "feature f g\nneeds zz *\n", api.ErrName, 2},
		{a0 + "feature f\nneeds zz *\nfeature g h\n", api.ErrName, 3},
		// Lines of one package stand apart: the line counts, not the package.
		{a0 + b0 + "feature f g\npackage a 1.0.1\nneeds zz *\n", api.ErrName, 3},
		{a0 + b0 + "package a 1.0.1\nneeds zz *\npackage b 1.0.1\nfeature f g\n", api.ErrName, 4},
	})
}

func TestP3LinesAheadOfNames(t *testing.T) {
	checkLoads(t, []loadCase{
		{a0 + "needs zz *\nwhat\n", api.ErrLine, 3},
		{a0 + "feature f g\nfeature f\n", api.ErrLine, 3},
		{a0 + "feature f dep:b\n" + b0 + a0, api.ErrLine, 4},
		{a0 + "needs zz *\n" + b0[:len(b0)-1], api.ErrLine, 3},
		// In one line: a name that is not there, and a word that may not be.
		{a0 + "needs zz * what\n", api.ErrLine, 2},
		{a0 + "feature f g +\n", api.ErrLine, 2},
	})
}
