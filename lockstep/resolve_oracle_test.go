package lockstep

import (
	"math/rand"
	"slices"
	"strconv"
	"strings"
	"testing"

	"lockstep/api"
)

// A second reading of P4 and P5, to hold Resolve against: of all locks that are right by the second reading of P6, the one that no other is better than.

// versionIn gives the numbers of the version that a lock has of a package, or nil.
func versionIn(lock, name string) []int {
	var numbers []int
	for line := range strings.Lines(lock) {
		words := strings.Fields(line)
		if words[0] != name {
			continue
		}
		for part := range strings.SplitSeq(words[1], ".") {
			n, _ := strconv.Atoi(part)
			numbers = append(numbers, n)
		}
	}
	return numbers
}

func (x *oracleIndex) isBetter(lock, other string) bool {
	for _, p := range x.packages {
		v, w := versionIn(lock, p), versionIn(other, p)
		if !slices.Equal(v, w) {
			return v == nil || w != nil && slices.Compare(v, w) > 0
		}
	}
	return false
}

// best gives the best of the locks that are right, and of how many.
func (x *oracleIndex) best(all map[string]bool) (string, int) {
	found, solutions := "", 0
	for lock, right := range all {
		if !right {
			continue
		}
		if solutions++; solutions == 1 || x.isBetter(lock, found) {
			found = lock
		}
	}
	return found, solutions
}

// agreeOnBest tells how many solutions there are.
func agreeOnBest(t *testing.T, text, request string) int {
	t.Helper()
	x, e, at := Load(text)
	if e != api.OK {
		t.Fatalf("Load(%q): %d, %d", text, e, at)
	}
	second := readByFields(text)
	want, solutions := second.best(second.locks(request))
	number := api.OK
	if solutions == 0 {
		number = api.ErrNone
	}
	if lock, e, at := x.Resolve(request); lock != want || e != number || at != 0 {
		t.Fatalf("index %q: Resolve(%q): %q, %d, %d, want %q, %d", text, request, lock, e, at, want, number)
	}
	return solutions
}

func TestP4P5ManyIndexes(t *testing.T) {
	r := rand.New(rand.NewSource(3))
	none, one, several := 0, 0, 0
	for range 2500 {
		text := anyIndex(r)
		packages := readByFields(text).packages
		for range 2 {
			switch agreeOnBest(t, text, anyRequest(r, packages)) {
			case 0:
				none++
			case 1:
				one++
			default:
				several++
			}
		}
	}
	if none < 300 || one < 300 || several < 300 {
		t.Errorf("the texts are too much alike: %d requests without a solution, %d with one, %d with several", none, one, several)
	}
	t.Log(none, one, several)
}

func TestP4P5AnIndexAtItsBounds(t *testing.T) {
	if n := agreeOnBest(t, inRow(), "root a *\nroot f >=1.0.0\n"); n != 3 {
		t.Errorf("%d solutions", n)
	}
	if n := agreeOnBest(t, inRow(), "root b >=2.0.0\nroot f * +g\n"); n != 0 {
		t.Errorf("%d solutions", n)
	}
}

func TestP4SmallChangesOfARequest(t *testing.T) {
	x, _, _ := Load(example1)
	second := readByFields(example1)
	seen := map[api.Errno]int{}
	agreeOnRequest := func(text string) {
		want, line := requestByPatterns(text, second.packages)
		right := ""
		if want == api.OK {
			lock, solutions := second.best(second.locks(text))
			right = lock
			if solutions == 0 {
				want = api.ErrNone
			}
		}
		if lock, e, at := x.Resolve(text); lock != right || e != want || at != line {
			t.Fatalf("Resolve(%q): %q, %d, %d, want %q, %d, %d", text, lock, e, at, right, want, line)
		}
		seen[want]++
	}
	for _, text := range []string{"root a * bare\nroot b >=0.10.2 +x +y1\nroot ab ~1.0.0\nroot b ^0.9.0\n", "root a *\nroot b ^1.2.0 +x\n", "root a >=1.0.0\n", strings.Repeat("root a *\n", 5)} {
		smallChanges(text, agreeOnRequest)
	}
	for _, e := range []api.Errno{api.OK, api.ErrLine, api.ErrName, api.ErrNone} {
		if seen[e] < 5 {
			t.Errorf("the texts are too much alike: %d answers %d", seen[e], e)
		}
	}
}
