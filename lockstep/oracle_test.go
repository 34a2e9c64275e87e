package lockstep

import (
	"math/rand"
	"regexp"
	"strings"
	"testing"

	"lockstep/api"
)

// A second reading of P3, by patterns, to hold Load against.

const (
	namePattern    = `[a-z][a-z0-9]{0,7}`
	versionPattern = `(?:0|[1-9][0-9]{0,2})(?:\.(?:0|[1-9][0-9]{0,2})){2}`
	demandPattern  = `(?:\*|(?:=|>=|~|\^)` + versionPattern + `)`
	itemPattern    = `(?:` + namePattern + `|dep:` + namePattern + `|` + namePattern + `\??/` + namePattern + `)`
)

var (
	packageLine = regexp.MustCompile(`^package (` + namePattern + `) (` + versionPattern + `)\n$`)
	needsLine   = regexp.MustCompile(`^needs (` + namePattern + `) ` + demandPattern + `( optional)?(?: bare)?(?: \+` + namePattern + `){0,5}\n$`)
	featureLine = regexp.MustCompile(`^feature (` + namePattern + `)((?: ` + itemPattern + `){0,5})\n$`)
)

type oracleEntry struct {
	needs    map[string]string // by package: "optional" or ""
	features map[string]bool
}

type oracle struct {
	versions map[string]map[string]bool
	entries  []*oracleEntry // by line
}

// lineMayBe takes one more line, if it may stand there.
func (o *oracle) lineMayBe(line string) bool {
	var last *oracleEntry
	if len(o.entries) > 0 {
		last = o.entries[len(o.entries)-1]
	}
	if m := packageLine.FindStringSubmatch(line); m != nil {
		if o.versions[m[1]] == nil {
			o.versions[m[1]] = map[string]bool{}
		}
		again := o.versions[m[1]][m[2]]
		o.versions[m[1]][m[2]] = true
		o.entries = append(o.entries, &oracleEntry{map[string]string{}, map[string]bool{}})
		return !again && len(o.versions) <= 6 && len(o.versions[m[1]]) <= 4
	}
	if last == nil {
		return false
	}
	o.entries = append(o.entries, last)
	if m := needsLine.FindStringSubmatch(line); m != nil {
		_, again := last.needs[m[1]]
		last.needs[m[1]] = strings.TrimSpace(m[2])
		return !again && len(last.needs) <= 5
	}
	if m := featureLine.FindStringSubmatch(line); m != nil {
		again := last.features[m[1]]
		last.features[m[1]] = true
		return !again && len(last.features) <= 5
	}
	return false
}

func (o *oracle) namesAreThere(line string, e *oracleEntry) bool {
	if m := needsLine.FindStringSubmatch(line); m != nil {
		return o.versions[m[1]] != nil
	}
	m := featureLine.FindStringSubmatch(line)
	if m == nil {
		return true
	}
	for _, item := range strings.Fields(m[2]) {
		there := false
		if name, dep := strings.CutPrefix(item, "dep:"); dep {
			there = e.needs[name] == "optional"
		} else if k := strings.IndexAny(item, "?/"); k >= 0 {
			_, there = e.needs[item[:k]]
		} else {
			there = e.features[item]
		}
		if !there {
			return false
		}
	}
	return true
}

func loadByPatterns(text string) (api.Errno, int) {
	if len(text) > 3000 {
		return api.ErrLong, 0
	}
	o := &oracle{versions: map[string]map[string]bool{}}
	lines := strings.SplitAfter(text, "\n")
	if lines[len(lines)-1] == "" {
		lines = lines[:len(lines)-1]
	}
	for k, line := range lines {
		if !o.lineMayBe(line) {
			return api.ErrLine, k + 1
		}
	}
	for k, line := range lines {
		if !o.namesAreThere(line, o.entries[k]) {
			return api.ErrName, k + 1
		}
	}
	return api.OK, 0
}

// agree holds one text against the patterns; twice, for the same text is answered the same (P2).
func agree(t *testing.T, text string) api.Errno {
	t.Helper()
	want, line := loadByPatterns(text)
	for range 2 {
		x, e, at := Load(text)
		if e != want || at != line || (x != nil) != (e == api.OK) {
			t.Fatalf("Load(%q): %v, %d, %d, want %d, %d", text, x != nil, e, at, want, line)
		}
	}
	return want
}

const manyForms = "package ab 1.0.0\nneeds c2 >=0.20.1 optional bare +x +y1\nneeds ab * +x\nfeature f g dep:c2 c2/x ab?/y\nfeature g\npackage c2 0.9.10\nfeature x x\npackage ab 0.1.0\nneeds c2 ~1.0.0 bare\n"

func TestP3SmallChanges(t *testing.T) {
	for _, text := range []string{example1, manyForms} {
		for k := range len(text) + 1 {
			agree(t, text[:k])
			agree(t, text[k:])
			for _, c := range []byte("abcgxz0129.*=>~^+:/?- \n\r\tA\x00\xff") {
				agree(t, text[:k]+string([]byte{c})+text[k:])
				if k < len(text) {
					agree(t, text[:k]+string([]byte{c})+text[k+1:])
				}
			}
			if k < len(text) {
				agree(t, text[:k]+text[k+1:])
			}
		}
	}
}

func pick(r *rand.Rand, words ...string) string { return words[r.Intn(len(words))] }

func some(r *rand.Rand, most int, word func() string) string {
	var s strings.Builder
	for range r.Intn(most + 1) {
		s.WriteString(" " + word())
	}
	return s.String()
}

func anyLine(r *rand.Rand) string {
	name := func() string { return pick(r, "a", "b", "c", "d") }
	switch r.Intn(12) {
	case 0, 1, 2, 3:
		return "package " + name() + " " + pick(r, "0.0.1", "1.0.0", "1.2.0", "2.0.0", "3.1.4") + "\n"
	case 4, 5, 6:
		return "needs " + name() + " " + pick(r, "*", "=1.0.0", "^1.0.0") + pick(r, "", " optional") + pick(r, "", " bare") + some(r, 5, func() string { return "+" + name() }) + "\n"
	case 7, 8, 9, 10:
		return "feature " + pick(r, "a", "b", "c", "d", "e", "f") + some(r, 2, func() string { return pick(r, "", "", "dep:", "b/", "a?/") + name() }) + "\n"
	}
	return pick(r, "package a 1.0.0\n", "needs a *\n", "feature f f f f f f\n", "package e 1.0.0\n", "package f 1.0.0\n")
}

func TestP3ManyTexts(t *testing.T) {
	r := rand.New(rand.NewSource(1))
	seen := map[api.Errno]int{}
	for range 60000 {
		text := "package a 0.1.0\n"
		for range r.Intn(14) {
			text += anyLine(r)
		}
		seen[agree(t, text)]++
	}
	for _, e := range []api.Errno{api.OK, api.ErrLine, api.ErrName} {
		if seen[e] < 1000 {
			t.Errorf("the texts are too much alike: %d answers %d", seen[e], e)
		}
	}
}
