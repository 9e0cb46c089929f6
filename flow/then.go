package flow

import "sync"

// thenStage is a stage whose work is a caller's function. Lines made of one line share it, and so do their runs side by side: the lock is for the function.
type thenStage struct {
	mark
	f    func(Item) (Item, bool, error)
	lock sync.Mutex
}

// run ends the stream with ErrPanic wherever the function did not answer: it may have panicked, or ended its goroutine.
func (s *thenStage) run(_ *crew, in <-chan parcel, out chan<- parcel) {
	ended := false
	defer func() {
		if !ended {
			_ = recover()
			out <- s.fails(ErrPanic)
		}
	}()
	s.do(work{each: s.makes}, in, out)
	ended = true
}

func (s *thenStage) makes(v value, out put) error {
	made, goesOn, err := s.call(v.item())
	if err != nil || !goesOn {
		return err
	}
	next, ok := valueOf(made)
	if !ok {
		return ErrNone
	}
	out(next)
	return nil
}

// call holds the lock for the call alone: a stage that waits until the next one takes what it made keeps no other run waiting.
func (s *thenStage) call(i Item) (Item, bool, error) {
	s.lock.Lock()
	defer s.lock.Unlock()
	return s.f(i)
}

// handTo recovers because f is the caller's.
func handTo(f func(Item) bool, i Item) (more bool, err error) {
	answered := false
	defer func() {
		if !answered {
			_ = recover()
			err = &StageError{At: -2, Name: "through", Err: ErrPanic}
		}
	}()
	more = f(i)
	answered = true
	return more, nil
}
