package lockstep

import (
	"strings"
	"testing"

	"lockstep/api"
)

type checkCase struct {
	request string
	lock    string
	e       api.Errno
	at      int
}

// runChecks asks twice, for the same texts are answered the same (P2), and holds what Resolve tells against it.
func runChecks(t *testing.T, index string, cases []checkCase) {
	t.Helper()
	x, e, _ := Load(index)
	if e != api.OK {
		t.Fatalf("Load(%q): %d", index, e)
	}
	for _, c := range cases {
		for range 2 {
			if e, at := x.Check(c.request, c.lock); e != c.e || at != c.at {
				t.Errorf("Check(%.120q, %.120q): %d, %d, want %d, %d", c.request, c.lock, e, at, c.e, c.at)
			}
		}
		agreeWithResolve(t, x, c)
	}
}

// agreeWithResolve: both tell the same of a request that is wrong; and where a lock is right, there is a solution.
func agreeWithResolve(t *testing.T, x *Index, c checkCase) {
	t.Helper()
	lock, e, at := x.Resolve(c.request)
	ok := e == c.e && at == c.at
	if c.e == api.ErrWrong {
		ok = (e == api.OK || e == api.ErrNone) && at == 0
	}
	if !ok || e != api.OK && lock != "" {
		t.Errorf("Resolve(%.120q): %q, %d, %d, but Check(%.120q): %d, %d", c.request, lock, e, at, c.lock, c.e, c.at)
	}
	if e != api.OK {
		return
	}
	if e, at := x.Check(c.request, lock); e != api.OK || at != 0 {
		t.Errorf("Check(%.120q, %q): %d, %d, but Resolve tells it", c.request, lock, e, at)
	}
}

// onlyLocks: of these locks the first is one of a solution, and the others are not.
func onlyLocks(request, right string, wrong ...string) []checkCase {
	cases := []checkCase{{request, right, api.OK, 0}}
	for _, lock := range wrong {
		cases = append(cases, checkCase{request, lock, api.ErrWrong, 0})
	}
	return cases
}

func TestP6Example1(t *testing.T) {
	runChecks(t, example1, []checkCase{
		{"root a *\n", "a 1.0.0 +default\nb 1.4.0\n", api.OK, 0},
		{"root a * bare\n", "a 1.0.0\n", api.OK, 0},
		{"root a * bare\nroot b * +x\n", "a 1.0.0\nb 1.4.0 +x\n", api.OK, 0},
		{"root a >=1.1.0\n", "a 1.1.0\nb 1.4.0\n", api.ErrWrong, 0},
		{"root a >=1.1.0\n", "", api.ErrWrong, 0},
		{"root a =1.0.0 +b\n", "a 1.0.0 +b\n", api.ErrWrong, 0},
		{"root a =1.0.0 +b\n", "a 1.0.0 +default\nb 1.4.0\n", api.ErrWrong, 0},
	})
}

func TestP6EmptyTexts(t *testing.T) {
	for _, index := range []string{"", example1} {
		runChecks(t, index, onlyLocks("", "", "\n", " ", "a 1.0.0\n", "b 1.4.0\n", "a"))
	}
	runChecks(t, "", []checkCase{{"root a *\n", "", api.ErrName, 1}, {"a\n", "", api.ErrLine, 1}})
	runChecks(t, example1, []checkCase{{"root b *\n", "", api.ErrWrong, 0}})
}

func TestP6EverySolutionAndNotOnlyTheBest(t *testing.T) {
	index := a0 + "needs b *\npackage a 1.1.0\nneeds b ^1.0.0\n" + b0 + "package b 1.10.0\npackage b 2.0.0\n"
	runChecks(t, index, []checkCase{
		{"root a *\n", "a 1.0.0\nb 1.0.0\n", api.OK, 0},
		{"root a *\n", "a 1.0.0\nb 1.10.0\n", api.OK, 0},
		{"root a *\n", "a 1.0.0\nb 2.0.0\n", api.OK, 0},
		{"root a *\n", "a 1.1.0\nb 1.0.0\n", api.OK, 0},
		{"root a *\n", "a 1.1.0\nb 1.10.0\n", api.OK, 0},
		{"root a *\n", "a 1.1.0\nb 2.0.0\n", api.ErrWrong, 0},
		{"root a *\nroot b =2.0.0\n", "a 1.1.0\nb 1.10.0\n", api.ErrWrong, 0},
		{"root a *\nroot b =2.0.0\n", "a 1.0.0\nb 2.0.0\n", api.OK, 0},
	})
}

// A package that needs itself, in two ways; and one that others need, but nothing that is wanted does.
func TestP6Wanted(t *testing.T) {
	runChecks(t, "package a 1.0.0\nneeds a ^1.0.0 +f\nfeature f\npackage a 2.0.0\nneeds a =1.0.0\n", []checkCase{
		{"root a *\n", "a 1.0.0 +f\n", api.OK, 0},
		{"root a *\n", "a 1.0.0\n", api.ErrWrong, 0},
		{"root a *\n", "a 2.0.0\n", api.ErrWrong, 0},
	})
	ring := "package a 1.0.0\nneeds b *\npackage b 1.0.0\nneeds c *\npackage c 1.0.0\nneeds b *\npackage d 1.0.0\nneeds e *\npackage e 1.0.0\nneeds d *\n"
	runChecks(t, ring, onlyLocks("root c *\n", "b 1.0.0\nc 1.0.0\n", "c 1.0.0\n", "a 1.0.0\nb 1.0.0\nc 1.0.0\n", "b 1.0.0\nc 1.0.0\nd 1.0.0\ne 1.0.0\n"))
	runChecks(t, ring, onlyLocks("", "", "b 1.0.0\nc 1.0.0\n", "d 1.0.0\ne 1.0.0\n"))
}

func TestP6PackagesTooManyOrTooFew(t *testing.T) {
	index := a0 + "needs b *\n" + b0 + "package c 1.0.0\nneeds a *\n"
	runChecks(t, index, onlyLocks("root a *\n", "a 1.0.0\nb 1.0.0\n", "", "a 1.0.0\n", "b 1.0.0\n", "a 1.0.0\nb 1.0.0\nc 1.0.0\n", "b 1.0.0\nc 1.0.0\n"))
}

func TestP6VersionsThatDoNotFit(t *testing.T) {
	index := "package a 1.0.0\npackage a 1.2.0\npackage a 1.2.5\npackage a 2.0.0\npackage b 1.0.0\nneeds a ~1.2.0\n"
	for _, c := range []struct{ demand, fit string }{
		{"*", "1.0.0 1.2.0 1.2.5 2.0.0"}, {"=1.2.0", "1.2.0"}, {">=1.2.0", "1.2.0 1.2.5 2.0.0"}, {"~1.2.0", "1.2.0 1.2.5"}, {"^1.2.0", "1.2.0 1.2.5"}, {"^1.0.0", "1.0.0 1.2.0 1.2.5"}, {"=3.0.0", ""},
	} {
		for _, v := range []string{"1.0.0", "1.2.0", "1.2.5", "2.0.0"} {
			want := api.ErrWrong
			if strings.Contains(c.fit, v) {
				want = api.OK
			}
			runChecks(t, index, []checkCase{
				{"root a " + c.demand + "\n", "a " + v + "\n", want, 0},
				{"root a *\nroot a " + c.demand + "\nroot a *\n", "a " + v + "\n", want, 0},
			})
		}
	}
	runChecks(t, index, []checkCase{
		{"root b *\n", "a 1.0.0\nb 1.0.0\n", api.ErrWrong, 0},
		{"root b *\n", "a 1.2.0\nb 1.0.0\n", api.OK, 0},
		{"root b *\n", "a 1.2.5\nb 1.0.0\n", api.OK, 0},
		{"root b *\n", "a 2.0.0\nb 1.0.0\n", api.ErrWrong, 0},
		{"root b *\nroot a =1.2.0\n", "a 1.2.5\nb 1.0.0\n", api.ErrWrong, 0},
	})
}

// A `needs` that is not met demands nothing.
func TestP6DemandsOfNeedsThatAreNotMet(t *testing.T) {
	index := a0 + "needs b =2.0.0 optional +x\nfeature f dep:b\n" + b0 + "package b 2.0.0\nfeature x\n"
	runChecks(t, index, []checkCase{
		{"root a *\nroot b *\n", "a 1.0.0\nb 1.0.0\n", api.OK, 0},
		{"root a *\nroot b *\n", "a 1.0.0\nb 2.0.0\n", api.OK, 0},
		{"root a * +f\nroot b *\n", "a 1.0.0 +f\nb 1.0.0\n", api.ErrWrong, 0},
		{"root a * +f\nroot b *\n", "a 1.0.0 +f\nb 2.0.0\n", api.ErrWrong, 0},
		{"root a * +f\nroot b *\n", "a 1.0.0 +f\nb 2.0.0 +x\n", api.OK, 0},
	})
}

func TestP6FeaturesOfALine(t *testing.T) {
	index := a0 + "feature b\nfeature a1\nfeature a\nfeature ab\n"
	runChecks(t, index, onlyLocks("root a * +b +ab +a +b\nroot a * +a1\n", "a 1.0.0 +a +a1 +ab +b\n",
		"a 1.0.0\n",
		"a 1.0.0 +a +a1 +ab\n", "a 1.0.0 +a1 +ab +b\n", "a 1.0.0 +a +a1 +b\n",
		"a 1.0.0 +b +a1 +a +ab\n", "a 1.0.0 +a +ab +a1 +b\n", "a 1.0.0 +a1 +a +ab +b\n", "a 1.0.0 +b +ab +a +a1\n",
		"a 1.0.0 +a +a1 +ab +b +b\n", "a 1.0.0 +a +a +a1 +ab +b\n", "a 1.0.0 +a +a1 +ab +b +c\n", "a 1.0.0 +a +a1 +ab +b +default\n",
		"a 1.0.0 a a1 ab b\n", "a 1.0.0 +a+a1+ab+b\n", "a 1.0.0 +a +a1 +ab +B\n",
	))
	runChecks(t, index, onlyLocks("root a *\n", "a 1.0.0\n", "a 1.0.0 +a\n", "a 1.0.0 +b +a1 +a +ab\n", "a 1.0.0 +c\n"))
	// A feature that the entry has not: no lock helps.
	runChecks(t, index, []checkCase{
		{"root a * +c\n", "a 1.0.0 +c\n", api.ErrWrong, 0},
		{"root a * +c\n", "a 1.0.0\n", api.ErrWrong, 0},
		{"root a * +default\n", "a 1.0.0 +default\n", api.ErrWrong, 0},
		{"root a * +default\n", "a 1.0.0\n", api.ErrWrong, 0},
	})
}

func TestP6Default(t *testing.T) {
	index := a0 + "feature default\npackage a 2.0.0\n" + b0 + "needs a *\npackage b 2.0.0\nneeds a * bare\npackage b 3.0.0\nneeds a * bare +default\n"
	runChecks(t, index, onlyLocks("root a =1.0.0\n", "a 1.0.0 +default\n", "a 1.0.0\n"))
	runChecks(t, index, onlyLocks("root a =1.0.0 bare\n", "a 1.0.0\n", "a 1.0.0 +default\n"))
	runChecks(t, index, onlyLocks("root a =1.0.0 bare +default\n", "a 1.0.0 +default\n", "a 1.0.0\n"))
	runChecks(t, index, onlyLocks("root a =1.0.0 bare\nroot a *\n", "a 1.0.0 +default\n", "a 1.0.0\n"))
	runChecks(t, index, onlyLocks("root a =2.0.0\n", "a 2.0.0\n", "a 2.0.0 +default\n"))
	runChecks(t, index, onlyLocks("root b =1.0.0\nroot a =1.0.0 bare\n", "a 1.0.0 +default\nb 1.0.0\n", "a 1.0.0\nb 1.0.0\n"))
	runChecks(t, index, onlyLocks("root b =1.0.0\nroot a =2.0.0\n", "a 2.0.0\nb 1.0.0\n", "a 2.0.0 +default\nb 1.0.0\n"))
	runChecks(t, index, onlyLocks("root b =2.0.0\nroot a =1.0.0 bare\n", "a 1.0.0\nb 2.0.0\n", "a 1.0.0 +default\nb 2.0.0\n"))
	runChecks(t, index, onlyLocks("root b =2.0.0\nroot a =1.0.0\n", "a 1.0.0 +default\nb 2.0.0\n", "a 1.0.0\nb 2.0.0\n"))
	runChecks(t, index, onlyLocks("root b =3.0.0\n", "a 1.0.0 +default\nb 3.0.0\n", "a 1.0.0\nb 3.0.0\n", "a 2.0.0\nb 3.0.0\n", "a 2.0.0 +default\nb 3.0.0\n"))
}

func TestP6Items(t *testing.T) {
	index := a0 +
		"needs b * optional bare +p\n" +
		"feature own own2\nfeature own2\nfeature dep dep:b\nfeature with b/q\nfeature withmet b?/q\n" +
		b0 + "feature default\nfeature p\nfeature q r\nfeature r\n"
	runChecks(t, index, onlyLocks("root a *\n", "a 1.0.0\n", "a 1.0.0\nb 1.0.0 +p\n"))
	runChecks(t, index, onlyLocks("root a * +own\n", "a 1.0.0 +own +own2\n", "a 1.0.0 +own\n", "a 1.0.0 +own2\n"))
	runChecks(t, index, onlyLocks("root a * +own2\n", "a 1.0.0 +own2\n", "a 1.0.0 +own +own2\n"))
	runChecks(t, index, onlyLocks("root a * +dep\n", "a 1.0.0 +dep\nb 1.0.0 +p\n", "a 1.0.0 +dep\n", "a 1.0.0 +dep\nb 1.0.0\n", "a 1.0.0 +dep\nb 1.0.0 +default +p\n"))
	runChecks(t, index, onlyLocks("root a * +with\n", "a 1.0.0 +with\nb 1.0.0 +p +q +r\n", "a 1.0.0 +with\n", "a 1.0.0 +with\nb 1.0.0 +p\n", "a 1.0.0 +with\nb 1.0.0 +q +r\n", "a 1.0.0 +with\nb 1.0.0 +p +q\n"))
	runChecks(t, index, onlyLocks("root a * +withmet\n", "a 1.0.0 +withmet\n", "a 1.0.0 +withmet\nb 1.0.0 +p +q +r\n"))
	// That b is wanted is not that a's `needs` of it is met.
	runChecks(t, index, onlyLocks("root a * +withmet\nroot b *\n", "a 1.0.0 +withmet\nb 1.0.0 +default\n", "a 1.0.0 +withmet\nb 1.0.0 +default +p +q +r\n", "a 1.0.0 +withmet\nb 1.0.0 +default +q +r\n"))
	runChecks(t, index, onlyLocks("root a * +withmet +dep\n", "a 1.0.0 +dep +withmet\nb 1.0.0 +p +q +r\n", "a 1.0.0 +dep +withmet\nb 1.0.0 +p\n", "a 1.0.0 +dep +withmet\n"))
}

func TestP6ItemsInRings(t *testing.T) {
	runChecks(t, a0+"feature f f\nfeature g h\nfeature h g\n", onlyLocks("root a * +f\n", "a 1.0.0 +f\n", "a 1.0.0\n"))
	runChecks(t, a0+"feature f f\nfeature g h\nfeature h g\n", onlyLocks("root a * +h\n", "a 1.0.0 +g +h\n", "a 1.0.0 +h\n"))
	ring := a0 + "needs b * optional\nfeature f b/f\n" + b0 + "needs a * optional\nfeature f a/g\nfeature g\npackage a 2.0.0\nneeds b *\nfeature f b?/g\nfeature g f\n"
	runChecks(t, ring, []checkCase{{"root a ^1.0.0 +f\n", "a 1.0.0 +f\nb 1.0.0 +f\n", api.ErrWrong, 0}}) // a 1.0.0 has no g
	runChecks(t, ring, onlyLocks("root b * +f\n", "a 2.0.0 +f +g\nb 1.0.0 +f +g\n", "a 2.0.0 +g\nb 1.0.0 +f\n", "a 1.0.0 +g\nb 1.0.0 +f\n"))
}

// The P?/F is on long ahead of what meets its `needs`: by another feature, by another package, by a chain of them.
func TestP6NeedsThatAreMetLater(t *testing.T) {
	same := a0 + "needs b * optional\nfeature default b?/q\nfeature z dep:b\n" + b0 + "feature q\n"
	runChecks(t, same, onlyLocks("root a *\n", "a 1.0.0 +default\n", "a 1.0.0 +default\nb 1.0.0 +q\n"))
	runChecks(t, same, onlyLocks("root a * +z\n", "a 1.0.0 +default +z\nb 1.0.0 +q\n", "a 1.0.0 +default +z\nb 1.0.0\n"))
	chain := a0 + "needs b * optional\nfeature default b?/q\nfeature z dep:b\n" + b0 + "feature q\n" +
		"package c 1.0.0\nneeds d * +on\npackage d 1.0.0\nneeds a * optional\nfeature on up\nfeature up a/z\n"
	runChecks(t, chain, onlyLocks("root a *\nroot c *\n", "a 1.0.0 +default +z\nb 1.0.0 +q\nc 1.0.0\nd 1.0.0 +on +up\n", "a 1.0.0 +default +z\nb 1.0.0\nc 1.0.0\nd 1.0.0 +on +up\n"))
	runChecks(t, chain, onlyLocks("root a *\nroot d *\n", "a 1.0.0 +default\nd 1.0.0\n", "a 1.0.0 +default\nb 1.0.0 +q\nd 1.0.0\n"))
	// What one P?/F turns on meets the `needs` that another one waits for.
	row := a0 + "needs b *\nneeds c * optional\nneeds d * optional\nfeature default c?/q b?/go\nfeature z dep:c d?/q\nfeature zz dep:d\n" +
		b0 + "needs a * optional bare\nfeature go a/z\n" +
		"package c 1.0.0\nneeds a * bare +zz\nfeature q\npackage d 1.0.0\nfeature q\n"
	runChecks(t, row, onlyLocks("root a *\n", "a 1.0.0 +default +z +zz\nb 1.0.0 +go\nc 1.0.0 +q\nd 1.0.0 +q\n", "a 1.0.0 +default +z +zz\nb 1.0.0 +go\nc 1.0.0 +q\nd 1.0.0\n", "a 1.0.0 +default +z +zz\nb 1.0.0 +go\nc 1.0.0\nd 1.0.0 +q\n"))
	// The package of the `needs` may be the entry's own.
	own := a0 + "needs a * optional bare\nfeature default a?/q\nfeature q\nfeature z dep:a\n"
	runChecks(t, own, onlyLocks("root a *\n", "a 1.0.0 +default\n", "a 1.0.0 +default +q\n"))
	runChecks(t, own, onlyLocks("root a * +z\n", "a 1.0.0 +default +q +z\n", "a 1.0.0 +default +z\n"))
}

// Features of one entry count, not those of another version.
func TestP6FeaturesOfTheChosenEntry(t *testing.T) {
	index := a0 + "needs b *\nfeature f b/x\n" + b0 + "package b 2.0.0\nfeature x\npackage a 2.0.0\nfeature f\n"
	runChecks(t, index, []checkCase{
		{"root a * +f\n", "a 1.0.0 +f\nb 1.0.0 +x\n", api.ErrWrong, 0},
		{"root a * +f\n", "a 1.0.0 +f\nb 1.0.0\n", api.ErrWrong, 0},
		{"root a * +f\n", "a 1.0.0 +f\nb 2.0.0 +x\n", api.OK, 0},
		{"root a * +f\n", "a 2.0.0 +f\n", api.OK, 0},
		{"root a * +f\n", "a 2.0.0 +f\nb 2.0.0 +x\n", api.ErrWrong, 0},
	})
}

func TestP6TextsThatAreNoLock(t *testing.T) {
	index := b0 + "needs a * +f\n" + a0 + "feature f\npackage b 0.9.0\n"
	right := "b 1.0.0\na 1.0.0 +f\n"
	runChecks(t, index, onlyLocks("root b =1.0.0\n", right,
		"a 1.0.0 +f\nb 1.0.0\n", right+right, right+"b 1.0.0\n", right+"a 1.0.0 +f\n", "b 1.0.0\n"+right, "b 0.9.0\n"+right,
		right+"\n", "\n"+right, right[:len(right)-1], right+" ", strings.ReplaceAll(right, "\n", "\r\n"), strings.ReplaceAll(right, " ", "  "), strings.ReplaceAll(right, "\n", " \n"), " "+right,
		"b 1.0.0\na 1.0.0 + f\n", "b 1.0.0\na 1.0.0 f\n", "b 1.0.0\na 1.0.0 ++f\n", "b 1.0.0\na +f 1.0.0\n", "b 1.0.0 a 1.0.0 +f\n",
		"b =1.0.0\na 1.0.0 +f\n", "b 1.0\na 1.0.0 +f\n", "b 01.0.0\na 1.0.0 +f\n", "b *\na 1.0.0 +f\n", "b\na 1.0.0 +f\n", "b 1.0.1\na 1.0.0 +f\n", "b 1.0.0\na 1.0.0 +f\nc 1.0.0\n", "B 1.0.0\na 1.0.0 +f\n", "package b 1.0.0\npackage a 1.0.0 +f\n", "root b *\n",
		right+strings.Repeat("x", 3000), strings.Repeat(right, 100000), strings.Repeat("\x00\xff", 500), "b 1.0.0\x00\na 1.0.0 +f\n",
	))
}

func TestP6BoundsOfARequest(t *testing.T) {
	roots := "root b *\nroot b *\nroot b *\nroot b *\n"
	index := b0 + "feature a\nfeature b\nfeature c\nfeature d\nfeature e\npackage abcdefgh 999.999.999\nfeature abcdefgh\n"
	runChecks(t, index, []checkCase{
		{roots, "b 1.0.0\n", api.OK, 0},
		{roots + "root b *\n", "b 1.0.0\n", api.ErrLine, 5},
		{roots + "root b *\nroot b *\n", "b 1.0.0\n", api.ErrLine, 5},
		{roots + "root b *", "b 1.0.0\n", api.ErrLine, 5},
		{roots + "\n", "b 1.0.0\n", api.ErrLine, 5},
		{"root b * +a +b +c +d +e\n", "b 1.0.0 +a +b +c +d +e\n", api.OK, 0},
		{"root b * bare +a +b +c +d +e\n", "b 1.0.0 +a +b +c +d +e\n", api.OK, 0},
		{"root b * +a +b +c +d +e +a\n", "b 1.0.0 +a +b +c +d +e\n", api.ErrLine, 1},
		{"root b * bare +a +b +c +d +e +a\n", "b 1.0.0 +a +b +c +d +e\n", api.ErrLine, 1},
		{"root abcdefgh =999.999.999 +abcdefgh\n", "abcdefgh 999.999.999 +abcdefgh\n", api.OK, 0},
		{"root abcdefghi *\n", "", api.ErrLine, 1},
		{"root b * +abcdefghi\n", "", api.ErrLine, 1},
		{"root b =1000.0.0\n", "", api.ErrLine, 1},
		{strings.Repeat("x", 3000), "", api.ErrLine, 1},
		{strings.Repeat("x", 3001), "", api.ErrLong, 0},
		{"root b *\n" + strings.Repeat(" ", 2991), "", api.ErrLine, 2},
		{"root b *\n" + strings.Repeat(" ", 2992), "", api.ErrLong, 0},
		{"root zz *\n" + strings.Repeat("x\n", 2000), "", api.ErrLong, 0},
		{strings.Repeat(roots, 100000), "", api.ErrLong, 0},
	})
}

func TestP6LinesThatMayNotBe(t *testing.T) {
	for _, line := range []string{
		"", " ", "what", "root", "root ", "root b", "root b ", "root *", "root * b", "Root b *", "roots b *", "needs b *", "package b 1.0.0", "b 1.0.0", "b *",
		"root b * ", " root b *", "root  b *", "root b  *", "root\tb *", "root b *\r", "root B *", "root 1 *", "root b_ *", "root b\x00 *", "root é *",
		"root b 1.0.0", "root b >1.0.0", "root b <=1.0.0", "root b =1.0", "root b =01.0.0", "root b **",
		"root b * optional", "root b * optional bare", "root b * bare optional", "root b * bare bare", "root b * Bare", "root b * +x bare", "root b * x", "root b * +", "root b * ++x", "root b * +X", "root b * +x+y", "root b * +x  +y", "root b * +x ", "root b * dep:b", "root b * +b/x",
	} {
		runChecks(t, b0, []checkCase{
			{line + "\n", "b 1.0.0\n", api.ErrLine, 1},
			{"root b *\n" + line + "\n", "b 1.0.0\n", api.ErrLine, 2},
			{"root zz *\n" + line + "\nroot b\n", "b 1.0.0\n", api.ErrLine, 2},
		})
	}
	runChecks(t, b0, []checkCase{
		{"root b *", "b 1.0.0\n", api.ErrLine, 1},
		{"root b *\nroot b *", "b 1.0.0\n", api.ErrLine, 2},
		{"root b *\n\n", "b 1.0.0\n", api.ErrLine, 2},
	})
}

func TestP6NamesThatAreNotThere(t *testing.T) {
	runChecks(t, example1, []checkCase{
		{"root x *\n", "", api.ErrName, 1},
		{"root a *\nroot c *\n", "a 1.0.0 +default\nb 1.4.0\n", api.ErrName, 2},
		{"root a *\nroot b *\nroot a *\nroot default *\n", "", api.ErrName, 4},
		{"root c *\nroot d *\n", "", api.ErrName, 1},
		{"root a *\nroot d *\nroot c *\n", "", api.ErrName, 2},
		// Lines that may not be are told ahead of names, and both ahead of a wrong lock.
		{"root c *\nroot a\n", "", api.ErrLine, 2},
		{"root c *\nroot a *", "", api.ErrLine, 2},
		{"root c *\n" + strings.Repeat("root a *\n", 4), "", api.ErrLine, 5},
		{"root c * what\n", "", api.ErrLine, 1},
		{"root c *\n", "what", api.ErrName, 1},
		{"root c\n", "what", api.ErrLine, 1},
		{"root a * +zz\n", "what", api.ErrWrong, 0},
	})
}

// The order of the lock's lines is that of the index, not that of names, nor of what is needed first.
func TestP6OrderOfPackages(t *testing.T) {
	index := "package c 1.0.0\npackage a 1.0.0\nneeds d *\npackage b 1.0.0\nneeds c *\npackage d 1.0.0\nneeds b *\npackage a 2.0.0\n"
	runChecks(t, index, onlyLocks("root a =1.0.0\n", "c 1.0.0\na 1.0.0\nb 1.0.0\nd 1.0.0\n", "a 1.0.0\nb 1.0.0\nc 1.0.0\nd 1.0.0\n", "a 1.0.0\nd 1.0.0\nb 1.0.0\nc 1.0.0\n", "c 1.0.0\nb 1.0.0\na 1.0.0\nd 1.0.0\n"))
}

// One call leaves nothing behind for the next, nor for another index (P2).
func TestP2ChecksDoNotHangOnEachOther(t *testing.T) {
	x, _, _ := Load(example1)
	y, _, _ := Load(a0 + b0)
	for range 3 {
		for _, c := range []struct {
			index *Index
			checkCase
		}{
			{x, checkCase{"root a *\n", "a 1.0.0 +default\nb 1.4.0\n", api.OK, 0}},
			{x, checkCase{"root a * bare\n", "a 1.0.0\n", api.OK, 0}},
			{y, checkCase{"root a *\n", "a 1.0.0\n", api.OK, 0}},
			{y, checkCase{"root a *\n", "a 1.0.0 +default\nb 1.4.0\n", api.ErrWrong, 0}},
			{x, checkCase{"root a *\n", "a 1.0.0\n", api.ErrWrong, 0}},
		} {
			if e, at := c.index.Check(c.request, c.lock); e != c.e || at != c.at {
				t.Errorf("Check(%q, %q): %d, %d", c.request, c.lock, e, at)
			}
		}
	}
}
