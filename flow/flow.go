// Package flow: values that flow through stages: see DOC.md.
package flow

import (
	"slices"
	"sync"
)

// Item is how a value is handed over: Kind 0: the number N; 1: the word S; 2: the wave Re + Im * i.
type Item struct {
	Kind   int
	N      int32
	S      string
	Re, Im int64
}

// Line is a row of stages. The zero Line, and a nil one, is the line without any.
type Line struct {
	spec string
	row  []stage
}

func (l *Line) String() string {
	if l == nil {
		return ""
	}
	return l.spec
}

func (l *Line) Names() []string {
	var names []string
	for _, s := range l.Stages() {
		names = append(names, s.Name())
	}
	return names
}

func (l *Line) Stages() []Stage { return appendAll(nil, l.stages()) }

func (l *Line) stages() []stage {
	if l == nil {
		return nil
	}
	return l.row
}

// Run lets items flow through the line (P3).
func (l *Line) Run(in []Item) ([]Item, error) {
	var out []Item
	for i, err := range l.Each(in) {
		if err != nil {
			return out, err
		}
		out = append(out, i)
	}
	return out, nil
}

// Each is to be ranged over (P4).
func (l *Line) Each(in []Item) func(yield func(Item, error) bool) {
	values, whole := valuesOf(in)
	return func(yield func(Item, error) bool) {
		if yield == nil {
			return
		}
		s := stream{values: values}
		if !whole {
			s.err = &StageError{At: -1, Err: ErrNone}
		}
		flowThrough(l.stages(), s, yield)
	}
}

// Through hands what comes out to f (P5).
func (l *Line) Through(in []Item, f func(Item) bool) error {
	for i, err := range l.Each(in) {
		if err != nil {
			return err
		}
		if more, err := handTo(f, i); err != nil || !more {
			return err
		}
	}
	return nil
}

// Then puts a stage behind the others (P6). The row is a new one: lines made of one line share no end of it.
func (l *Line) Then(name string, f func(Item) (Item, bool, error)) *Line {
	last := &thenStage{mark: mark{name: name, at: len(l.Stages())}, f: f}
	spec := l.String()
	if spec != "" {
		spec += "|"
	}
	return &Line{spec: spec + name, row: slices.Concat(l.stages(), []stage{last})}
}

// RunAll runs lines side by side (P7).
func RunAll(specs []string, in []Item) ([][]Item, []error) {
	outs := make([][]Item, len(specs))
	errs := make([]error, len(specs))
	var all sync.WaitGroup
	for i, spec := range specs {
		all.Go(func() { outs[i], errs[i] = runSpec(spec, in) })
	}
	all.Wait()
	return outs, errs
}

func runSpec(spec string, in []Item) ([]Item, error) {
	l, err := Parse(spec)
	if err != nil {
		return nil, err
	}
	return l.Run(in)
}
