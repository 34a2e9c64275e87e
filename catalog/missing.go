package catalog

import "errors"

var (
	errNoPackage  = errors.New("the index has no such package")
	errNoNeed     = errors.New("the entry does not need this package")
	errNoFeature  = errors.New("the entry has no such feature")
	errNoOptional = errors.New("the entry needs this package anyway")
)

func (n Need) missing(x *Index, e *Entry) error {
	if !x.Has(n.Package) {
		return errNoPackage
	}
	return nil
}

func (f Feature) missing(x *Index, e *Entry) error {
	for _, item := range f.Items {
		if err := item.missing(e); err != nil {
			return err
		}
	}
	return nil
}

// missing does not look whether the package that is needed has the feature: its versions may differ in that.
func (i Item) missing(e *Entry) error {
	if i.Kind == Own {
		if _, ok := e.Feature(i.Feature); !ok {
			return errNoFeature
		}
		return nil
	}
	need, ok := e.Need(i.Package)
	if !ok {
		return errNoNeed
	}
	if i.Kind == Dep && !need.Optional {
		return errNoOptional
	}
	return nil
}
