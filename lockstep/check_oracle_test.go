package lockstep

import (
	"math/rand"
	"regexp"
	"slices"
	"strings"
	"testing"

	"lockstep/api"
)

// A second reading of P6, to hold Check against: the rules are gone through again and again until nothing comes of it,
// for every choice that there is; a lock is right, if it is among the locks that come out.

type oracleIndex struct {
	packages []string
	versions map[string][]string
	lines    map[string][][]string // of an entry, by `NAME VERSION`, split into words
}

func readByFields(text string) *oracleIndex {
	x := &oracleIndex{versions: map[string][]string{}, lines: map[string][][]string{}}
	entry := ""
	for line := range strings.Lines(text) {
		words := strings.Fields(line)
		if words[0] != "package" {
			x.lines[entry] = append(x.lines[entry], words)
			continue
		}
		if x.versions[words[1]] == nil {
			x.packages = append(x.packages, words[1])
		}
		x.versions[words[1]] = append(x.versions[words[1]], words[2])
		entry = words[1] + " " + words[2]
	}
	return x
}

// facts holds `wanted P`, `met P N` (the `needs` of N of the entry that is chosen of P), `on P F` and `misfit P`.
type facts map[string]bool

func (f facts) ask(p, version string, words []string, hasDefault bool) {
	f["wanted "+p] = true
	if ok, _ := Fits(version, words[0]); version != "" && !ok {
		f["misfit "+p] = true
	}
	for _, word := range words[1:] {
		if name, ok := strings.CutPrefix(word, "+"); ok {
			f["on "+p+" "+name] = true
		}
	}
	if hasDefault && !slices.Contains(words, "bare") {
		f["on "+p+" default"] = true
	}
}

func (x *oracleIndex) has(p, version, feature string) bool {
	return slices.ContainsFunc(x.lines[p+" "+version], func(words []string) bool { return words[0] == "feature" && words[1] == feature })
}

func (x *oracleIndex) once(f facts, request string, choice map[string]string) {
	for line := range strings.Lines(request) {
		words := strings.Fields(line)
		f.ask(words[1], choice[words[1]], words[2:], x.has(words[1], choice[words[1]], "default"))
	}
	for p, version := range choice {
		for _, words := range x.lines[p+" "+version] {
			name := words[1]
			if words[0] == "needs" {
				if f["wanted "+p] && !slices.Contains(words, "optional") {
					f["met "+p+" "+name] = true
				}
				if f["met "+p+" "+name] {
					f.ask(name, choice[name], words[2:], x.has(name, choice[name], "default"))
				}
				continue
			}
			if f["on "+p+" "+name] {
				f.items(p, words[2:])
			}
		}
	}
}

func (f facts) items(p string, items []string) {
	for _, item := range items {
		if name, ok := strings.CutPrefix(item, "dep:"); ok {
			f["met "+p+" "+name] = true
		} else if name, feature, ok := strings.Cut(item, "?/"); ok {
			if f["met "+p+" "+name] {
				f["on "+name+" "+feature] = true
			}
		} else if name, feature, ok := strings.Cut(item, "/"); ok {
			f["met "+p+" "+name] = true
			f["on "+name+" "+feature] = true
		} else {
			f["on "+p+" "+item] = true
		}
	}
}

// lock gives the text that the choice would have, and whether it is a solution.
func (x *oracleIndex) lock(request string, choice map[string]string) (string, bool) {
	f := facts{}
	for before := -1; before < len(f); {
		before = len(f)
		x.once(f, request, choice)
	}
	text, ok := "", true
	for _, p := range x.packages {
		version, chosen := choice[p]
		if f["wanted "+p] != chosen || f["misfit "+p] {
			ok = false
		}
		var on []string
		for fact := range f {
			if name, is := strings.CutPrefix(fact, "on "+p+" "); is {
				on = append(on, " +"+name)
				ok = ok && x.has(p, version, name)
			}
		}
		slices.Sort(on)
		if chosen {
			text += p + " " + version + strings.Join(on, "") + "\n"
		}
	}
	return text, ok
}

// locks gives the texts of all choices, each with whether it is the lock of a solution.
func (x *oracleIndex) locks(request string) map[string]bool {
	all := map[string]bool{}
	choice := map[string]string{}
	var choose func(k int)
	choose = func(k int) {
		if k == len(x.packages) {
			text, ok := x.lock(request, choice)
			all[text] = all[text] || ok
			return
		}
		delete(choice, x.packages[k])
		choose(k + 1)
		for _, version := range x.versions[x.packages[k]] {
			choice[x.packages[k]] = version
			choose(k + 1)
		}
		delete(choice, x.packages[k])
	}
	choose(0)
	return all
}

func anyDemand(r *rand.Rand) string {
	return pick(r, "*", "*", "*", ">=1.0.0", "^1.0.0", "~1.0.0", "=1.1.0", "=2.0.0")
}

func anyAsk(r *rand.Rand, features []string) string {
	ask := pick(r, "", "", " bare")
	if r.Intn(3) == 0 {
		ask += some(r, 2, func() string { return "+" + pick(r, features...) })
	}
	return ask
}

// anyIndex makes an index that Load takes: items name only what is there.
func anyIndex(r *rand.Rand) string {
	packages := []string{"d", "b", "a", "c"}[:2+r.Intn(3)]
	features := []string{"default", "f", "g", "h"}
	text := ""
	for _, version := range []string{"1.0.0", "2.0.0", "1.1.0"}[:1+r.Intn(3)] {
		for _, p := range packages {
			if version != "1.0.0" && r.Intn(3) == 0 {
				continue
			}
			text += "package " + p + " " + version + "\n" + anyEntry(r, packages, features)
		}
	}
	return text
}

func anyEntry(r *rand.Rand, packages, features []string) string {
	text := ""
	var items []string
	for _, k := range r.Perm(len(packages))[:r.Intn(len(packages))] {
		optional := pick(r, "", " optional", " optional")
		text += "needs " + packages[k] + " " + anyDemand(r) + optional + anyAsk(r, features) + "\n"
		items = append(items, packages[k]+"/"+pick(r, features...), packages[k]+"?/"+pick(r, features...), packages[k]+"?/"+pick(r, features...))
		if optional != "" {
			items = append(items, "dep:"+packages[k])
		}
	}
	own := r.Perm(len(features))[:2+r.Intn(3)]
	for _, k := range own {
		items = append(items, features[k])
	}
	for _, k := range own {
		text += "feature " + features[k] + some(r, 3, func() string { return pick(r, items...) }) + "\n"
	}
	return text
}

func anyRequest(r *rand.Rand, packages []string) string {
	text := ""
	for range 1 + r.Intn(3) {
		text += "root " + pick(r, packages...) + " " + anyDemand(r) + anyAsk(r, []string{"default", "f", "g", "h"}) + "\n"
	}
	return text
}

// change makes a text that is nearly the lock.
func change(r *rand.Rand, lock string) string {
	lines := strings.SplitAfter(lock, "\n")
	words := strings.Split(lock, " ")
	k, l := r.Intn(len(lines)), r.Intn(len(words))
	switch r.Intn(6) {
	case 0:
		return strings.Join(slices.Delete(lines, k, k+1), "")
	case 1:
		return strings.Join(slices.Insert(lines, k, lines[r.Intn(len(lines))]), "")
	case 2:
		return strings.Join(slices.Delete(words, l, l+1), " ")
	case 3:
		return strings.Join(slices.Insert(words, l, words[r.Intn(len(words))]), " ")
	case 4:
		m := r.Intn(len(words))
		words[l], words[m] = words[m], words[l]
		return strings.Join(words, " ")
	}
	return strings.Replace(lock, "\n", " +"+pick(r, "default", "f", "g", "h")+"\n", 1)
}

func TestP6ManyIndexes(t *testing.T) {
	r := rand.New(rand.NewSource(2))
	right, wrong, several := 0, 0, 0
	for range 1500 {
		text := anyIndex(r)
		x, e, at := Load(text)
		if e != api.OK {
			t.Fatalf("Load(%q): %d, %d", text, e, at)
		}
		second := readByFields(text)
		for range 3 {
			request := anyRequest(r, second.packages)
			all := second.locks(request)
			agreeOnLock := func(lock string) {
				want := api.ErrWrong
				if all[lock] {
					want = api.OK
				}
				if e, at := x.Check(request, lock); e != want || at != 0 {
					t.Fatalf("index %q: Check(%q, %q): %d, %d, want %d", text, request, lock, e, at, want)
				}
			}
			solutions := 0
			for _, lock := range sortedKeys(all) {
				agreeOnLock(lock)
				if !all[lock] {
					wrong++
					continue
				}
				solutions++
				for range 10 {
					agreeOnLock(change(r, lock))
				}
			}
			right += solutions
			if solutions > 1 {
				several++
			}
		}
	}
	if right < 1000 || wrong < 1000 || several < 200 {
		t.Errorf("the texts are too much alike: %d right locks, %d wrong ones, %d requests with several solutions", right, wrong, several)
	}
	t.Log(right, wrong, several)
}

// sortedKeys: the changes must not hang on the order of a map, or a fault could not be found again.
func sortedKeys(m map[string]bool) []string {
	var keys []string
	for k := range m {
		keys = append(keys, k)
	}
	slices.Sort(keys)
	return keys
}

var rootLine = regexp.MustCompile(`^root (` + namePattern + `) ` + demandPattern + `(?: bare)?(?: \+` + namePattern + `){0,5}\n$`)

func requestByPatterns(text string, packages []string) (api.Errno, int) {
	if len(text) > 3000 {
		return api.ErrLong, 0
	}
	lines := slices.Collect(strings.Lines(text))
	for k, line := range lines {
		if k == 4 || !rootLine.MatchString(line) {
			return api.ErrLine, k + 1
		}
	}
	for k, line := range lines {
		if !slices.Contains(packages, strings.Fields(line)[1]) {
			return api.ErrName, k + 1
		}
	}
	return api.OK, 0
}

// smallChanges gives the beginnings and ends of a text, and what becomes of it by one byte more or another one.
func smallChanges(text string, agree func(changed string)) {
	for k := range len(text) + 1 {
		agree(text[:k])
		agree(text[k:])
		for _, c := range []byte("abgxz0129.*=>~^+:/?- \n\r\tA\x00\xff") {
			agree(text[:k] + string([]byte{c}) + text[k:])
			if k < len(text) {
				agree(text[:k] + string([]byte{c}) + text[k+1:])
			}
		}
	}
}

func TestP6SmallChangesOfARequest(t *testing.T) {
	x, _, _ := Load(example1)
	second := readByFields(example1)
	request := "root a * bare\nroot b >=0.10.2 +x +y1\nroot ab ~1.0.0\nroot b ^0.9.0\n"
	seen := map[api.Errno]int{}
	agreeOnRequest := func(text string) {
		want, line := requestByPatterns(text, second.packages)
		lock := "a 1.0.0\nb 1.4.0 +x\n"
		if want == api.OK && !second.locks(text)[lock] {
			want = api.ErrWrong
		}
		if e, at := x.Check(text, lock); e != want || at != line {
			t.Fatalf("Check(%q, %q): %d, %d, want %d, %d", text, lock, e, at, want, line)
		}
		seen[want]++
	}
	for _, text := range []string{request, "root a * bare\nroot b ^1.2.0 +x\n", strings.Repeat("root a *\n", 5)} {
		smallChanges(text, agreeOnRequest)
	}
	for _, e := range []api.Errno{api.OK, api.ErrLine, api.ErrName, api.ErrWrong} {
		if seen[e] < 5 {
			t.Errorf("the texts are too much alike: %d answers %d", seen[e], e)
		}
	}
}
