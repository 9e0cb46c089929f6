package flow

import "sync"

// parcel is what goes from stage to stage: a value, or the error with which a stream ends. Behind an error nothing comes.
type parcel struct {
	v   value
	err error
}

// stream is a whole stream at rest.
type stream struct {
	values []value
	err    error
}

// flowThrough hands what a row of stages makes of a stream to yield. It waits for its goroutines even if yield panics.
func flowThrough(row []stage, s stream, yield func(Item, error) bool) {
	var c crew
	out := c.start(row, s)
	defer func() {
		drain(out)
		c.Wait()
	}()
	for p := range out {
		if p.err != nil {
			yield(Item{}, p.err)
			return
		}
		if !yield(p.v.item(), nil) {
			return
		}
	}
}

// crew is all goroutines of one run.
type crew struct{ sync.WaitGroup }

// start lets a stream flow through a row of stages, each of them a goroutine, and answers the channel by which comes what they make. Whoever takes from it takes all: no goroutine waits for ever, and what each stage gets is the same whatever the stages behind it do.
func (c *crew) start(row []stage, s stream) <-chan parcel {
	first := make(chan parcel, room)
	c.Go(func() {
		feed(s, first)
		close(first)
	})
	var in <-chan parcel = first
	for _, st := range row {
		in = c.work(st, in)
	}
	return in
}

// work defers what is to do behind a stage: a caller's function in it may end the goroutine.
func (c *crew) work(st stage, in <-chan parcel) <-chan parcel {
	out := make(chan parcel, room)
	c.Go(func() {
		defer drain(in)
		defer close(out)
		st.run(c, in, out)
	})
	return out
}

// room lets a stage go on for a while before the next one has taken what it made.
const room = 16

func feed(s stream, out chan<- parcel) {
	for _, v := range s.values {
		out <- parcel{v: v}
	}
	if s.err != nil {
		out <- parcel{err: s.err}
	}
}

func drain(in <-chan parcel) {
	for range in {
	}
}

// gather waits for the end of a stream. Lines side by side are each fed from what it answers: if they were fed from one channel, one that makes nothing before its end would keep the others waiting, and they it.
func gather(in <-chan parcel) stream {
	var s stream
	for p := range in {
		if p.err != nil {
			s.err = p.err
		} else {
			s.values = append(s.values, p.v)
		}
	}
	return s
}

// deal gives the values of a stream to k others in turn, and its error to each of them. Of those to which no value comes only one is answered, and none without an error: with nothing each of them makes nothing, with the error alone each makes the same, and if that is the error no other one's turn comes.
func deal(s stream, k int) []stream {
	parts := make([]stream, min(k, len(s.values)))
	for i, v := range s.values {
		p := &parts[i%k]
		p.values = append(p.values, v)
	}
	for i := range parts {
		parts[i].err = s.err
	}
	if len(parts) < k && s.err != nil {
		parts = append(parts, stream{err: s.err})
	}
	return parts
}

// inTurn hands on a parcel of the first line, of the second and so on, again and again, those left out that have ended, up to an error.
func inTurn(lines []<-chan parcel, out chan<- parcel) {
	for open := lines; len(open) > 0; {
		var still []<-chan parcel
		for _, line := range open {
			p, ok := <-line
			if !ok {
				continue
			}
			out <- p
			if p.err != nil {
				drainAll(lines)
				return
			}
			still = append(still, line)
		}
		open = still
	}
}

func drainAll(lines []<-chan parcel) {
	for _, line := range lines {
		drain(line)
	}
}
