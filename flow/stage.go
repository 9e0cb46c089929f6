package flow

// Stage is one of a line's.
type Stage interface {
	Name() string
	At() int
}

// stage is a Stage as it works in a run: it takes what comes by in and hands on what it makes by out, until its stream ends. It closes nothing; what it does not take is dropped.
type stage interface {
	Stage
	run(c *crew, in <-chan parcel, out chan<- parcel)
}

// mark is what every stage has; the kinds of stages embed it.
type mark struct {
	name string
	at   int
}

func (m mark) Name() string { return m.name }

func (m mark) At() int { return m.at }

// do does a stage's work with a whole stream.
func (m mark) do(w work, in <-chan parcel, out chan<- parcel) {
	hand := func(v value) { out <- parcel{v: v} }
	for p := range in {
		if p.err != nil {
			out <- p
			return
		}
		if err := w.each(p.v, hand); err != nil {
			out <- m.fails(err)
			return
		}
	}
	if w.last == nil {
		return
	}
	if err := w.last(hand); err != nil {
		out <- m.fails(err)
	}
}

func (m mark) fails(err error) parcel {
	return parcel{err: &StageError{At: m.at, Name: m.name, Err: err}}
}

// simpleStage is a stage with a K, or with nothing.
type simpleStage struct {
	mark
	k int
}

func (s *simpleStage) run(_ *crew, in <-chan parcel, out chan<- parcel) {
	s.do(beginOf(s.name, s.k), in, out)
}

type foldStage struct {
	mark
	how string
}

func (s *foldStage) run(_ *crew, in <-chan parcel, out chan<- parcel) {
	s.do(folds(s.how), in, out)
}

type takeStage struct {
	mark
	k int
}

// run looks at nothing behind the k-th value, so an error there shows nowhere.
func (s *takeStage) run(_ *crew, in <-chan parcel, out chan<- parcel) {
	for range s.k {
		p, ok := <-in
		if !ok {
			return
		}
		out <- p
	}
}

type bothStage struct {
	mark
	first, second []stage
}

func (s *bothStage) run(c *crew, in <-chan parcel, out chan<- parcel) {
	whole := gather(in)
	inTurn([]<-chan parcel{c.start(s.first, whole), c.start(s.second, whole)}, out)
}

type parStage struct {
	mark
	k     int
	inner []stage
}

func (s *parStage) run(c *crew, in <-chan parcel, out chan<- parcel) {
	var lines []<-chan parcel
	for _, part := range deal(gather(in), s.k) {
		lines = append(lines, c.start(s.inner, part))
	}
	inTurn(lines, out)
}

// appendAll appends the stages of a row and those in their brackets, as they are numbered.
func appendAll(list []Stage, row []stage) []Stage {
	for _, s := range row {
		list = append(list, s)
		switch s := s.(type) {
		case *bothStage:
			list = appendAll(appendAll(list, s.first), s.second)
		case *parStage:
			list = appendAll(list, s.inner)
		}
	}
	return list
}
