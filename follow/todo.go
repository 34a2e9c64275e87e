package follow

import "cmp"

// kind is ordered: needs go ahead of features, so that most items `P?/F` find their `needs` met when they are followed.
type kind int

const (
	wanted kind = iota // a package
	met                // a `needs` of its entry
	on                 // a feature of its entry
)

// fact is one thing that follows. Its name is that of the package that is needed, or of the feature.
type fact struct {
	kind  kind
	place int // of the package in the index
	name  string
}

func (f fact) compare(g fact) int {
	return cmp.Or(cmp.Compare(f.kind, g.kind), cmp.Compare(f.place, g.place), cmp.Compare(f.name, g.name))
}

// todo is a heap of the facts that are still to be followed from.
type todo []fact

func (t todo) Len() int { return len(t) }

func (t todo) Less(i, j int) bool { return t[i].compare(t[j]) < 0 }

func (t todo) Swap(i, j int) { t[i], t[j] = t[j], t[i] }

func (t *todo) Push(x any) { *t = append(*t, x.(fact)) }

func (t *todo) Pop() any {
	last := len(*t) - 1
	f := (*t)[last]
	*t = (*t)[:last]
	return f
}
