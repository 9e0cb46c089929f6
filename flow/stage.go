package flow

// Stage is one of a line's.
type Stage interface {
	Name() string
	At() int
}

// mark is what every stage has; the kinds of stages embed it.
type mark struct {
	name string
	at   int
}

func (m mark) Name() string { return m.name }

func (m mark) At() int { return m.at }

// simpleStage is a stage with a K, or with nothing.
type simpleStage struct {
	mark
	k int
}

type foldStage struct {
	mark
	how string
}

type bothStage struct {
	mark
	first, second []Stage
}

type parStage struct {
	mark
	k     int
	inner []Stage
}

// appendAll appends the stages of a row and those in their brackets, as they are numbered.
func appendAll(list, row []Stage) []Stage {
	for _, s := range row {
		list = append(list, s)
		switch s := s.(type) {
		case *bothStage:
			list = appendAll(appendAll(list, s.first), s.second)
		case *parStage:
			list = appendAll(list, s.inner)
		}
	}
	return list
}
