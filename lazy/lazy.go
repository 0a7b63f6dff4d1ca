// Package lazy: once, and counted: see DOC.md, chapter 1.
package lazy

import (
	"sync"
	"sync/atomic"
)

// Cell holds what a function answers, called when it is first needed.
type Cell struct {
	once   sync.Once
	done   atomic.Bool
	f      func() int
	answer int
}

// Count is a number that several goroutines may add to and raise.
type Count struct {
	n atomic.Int64
}

// New answers a cell of f, which is not called yet.
func New(f func() int) *Cell {
	return &Cell{f: f}
}

// Get answers what f answered, and calls it if nobody has yet.
func (c *Cell) Get() int {
	if c == nil {
		return 0
	}
	c.once.Do(c.call)
	return c.answer
}

// call runs within the Once. Where f panics the answer stays 0: it is assigned
// only when f has come back, and the panic goes on through the Once, which
// holds its one call for made all the same.
func (c *Cell) call() {
	// Deferred, so that a cell whose function panics is done as well.
	defer c.done.Store(true)
	f := c.f
	// The function is not needed again, so nothing that it holds is kept.
	c.f = nil
	if f != nil {
		c.answer = f()
	}
}

// Done tells whether the function's one call is over, by a panic too.
func (c *Cell) Done() bool {
	// The Once can't be asked without being run, hence a mark of its own.
	return c != nil && c.done.Load()
}

// Add adds n, and answers what the count is then.
func (c *Count) Add(n int) int {
	if c == nil {
		return 0
	}
	return int(c.n.Add(int64(n)))
}

// Now answers what the count is.
func (c *Count) Now() int {
	if c == nil {
		return 0
	}
	return int(c.n.Load())
}

// Raise makes the count n if it was below, and tells whether it was.
func (c *Count) Raise(n int) bool {
	if c == nil {
		return false
	}
	for {
		was := c.n.Load()
		if was >= int64(n) {
			return false
		}
		// Another goroutine may have come between: then what it left is
		// held against n anew, so that no Add and no higher Raise is lost.
		if c.n.CompareAndSwap(was, int64(n)) {
			return true
		}
	}
}
