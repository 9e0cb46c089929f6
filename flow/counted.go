package flow

import "sync"

// Counted is a line that counts what its Runs answer (P8).
type Counted struct {
	*Line
	lock sync.Mutex
	seen int
}

func Count(l *Line) *Counted { return &Counted{Line: l} }

// Run holds the lock only behind the line's: Runs go side by side, and a function in the line may ask Seen.
func (c *Counted) Run(in []Item) ([]Item, error) {
	if c == nil {
		c = Count(nil)
	}
	out, err := c.Line.Run(in)
	c.lock.Lock()
	defer c.lock.Unlock()
	c.seen += len(out)
	return out, err
}

// Seen tells how many values its Runs have answered so far.
func (c *Counted) Seen() int {
	if c == nil {
		return 0
	}
	c.lock.Lock()
	defer c.lock.Unlock()
	return c.seen
}
