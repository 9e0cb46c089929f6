package flow

import "errors"

// A caller can make an error whose chain never ends: Unwrap answers another one again and again, and no walk can tell that from a chain that ends later. These bounds lie above what is made by hand and held in memory: only such an error comes to them.
const (
	mostErrors = 1 << 27
	mostForks  = 1 << 20
)

// finder is told of the errors on a walk: of each one, in their order, and of those that wrap nothing.
type finder interface {
	met(err error)
	ended(err error)
}

// walk is the way along the chain of an error, and along the branches of errors that are joined.
type walk struct {
	find  finder
	errs  int
	forks int
	open  []error
}

// walkFrom tells whether all ways came to an end.
func walkFrom(err error, f finder) bool {
	w := walk{find: f, open: []error{err}}
	all := true
	for len(w.open) > 0 {
		last := len(w.open) - 1
		next := w.open[last]
		w.open = w.open[:last]
		all = w.along(next) && all
	}
	return all
}

// along goes to the end of a chain, or to where it leads back into itself. It sees that by StageErrors alone: to compare errors of a caller's own may take as long as their chains are, at each step.
func (w *walk) along(err error) bool {
	var been round
	for ; w.errs < mostErrors; w.errs++ {
		w.find.met(err)
		next := wrappedBy(err)
		if next == nil {
			return w.atEnd(err)
		}
		if s, ok := err.(*StageError); ok && been.closedBy(s) {
			return false
		}
		err = next
	}
	return false
}

// round keeps one StageError of a chain in mind, and a later one each time that twice as many have come by: a chain that leads in a circle comes by it again.
type round struct {
	kept        *StageError
	came, until int
}

func (r *round) closedBy(s *StageError) bool {
	if s == r.kept {
		return true
	}
	r.came++
	if r.came > r.until {
		r.kept, r.until = s, 2*r.came
	}
	return false
}

func (w *walk) atEnd(err error) bool {
	branches := joinedBy(err)
	if len(branches) == 0 {
		w.find.ended(err)
		return true
	}
	return w.fork(branches)
}

// fork opens branches, the first one on top.
func (w *walk) fork(branches []error) bool {
	if w.forks == mostForks || len(w.open)+len(branches) > mostErrors {
		return false
	}
	w.forks++
	for i := len(branches) - 1; i >= 0; i-- {
		if branches[i] != nil {
			w.open = append(w.open, branches[i])
		}
	}
	return true
}

// wrappedBy answers nothing of an error whose Unwrap panics: there the chain can't be followed.
func wrappedBy(err error) (next error) {
	defer func() {
		if recover() != nil {
			next = nil
		}
	}()
	return errors.Unwrap(err)
}

// joinedBy is asked of errors that wrap no single one: so errors.As goes no further than to the first.
func joinedBy(err error) (branches []error) {
	defer func() {
		if recover() != nil {
			branches = nil
		}
	}()
	var joined interface{ Unwrap() []error }
	if errors.As(err, &joined) {
		return joined.Unwrap()
	}
	return nil
}
