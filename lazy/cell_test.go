package lazy_test

import (
	"errors"
	"math"
	"runtime"
	"sync"
	"testing"

	"versal/lazy"
)

// getOrCatch answers what Get answers, or what it panics with.
func getOrCatch(c *lazy.Cell) (answer int, panicked bool, with any) {
	panicked = true
	defer func() {
		if panicked {
			with = recover()
		}
	}()
	answer = c.Get()
	panicked = false
	return answer, panicked, with
}

// together runs f in n goroutines that start at one time, and joins them.
func together(n int, f func(k int)) {
	var wait sync.WaitGroup
	start := make(chan struct{})
	for k := range n {
		wait.Add(1)
		go func() {
			defer wait.Done()
			<-start
			f(k)
		}()
	}
	close(start)
	wait.Wait()
}

// 1.1: several Gets are one call, whatever the function answers.
func TestGetCallsOnce(t *testing.T) {
	for _, want := range []int{1, 0, -1, 65536, math.MaxInt, math.MinInt} {
		calls := 0
		c := lazy.New(func() int {
			calls++
			if calls > 1 {
				return 12345
			}
			return want
		})
		if calls != 0 {
			t.Fatalf("%d: New called the function", want)
		}
		for k := range 5 {
			if got := c.Get(); got != want || calls != 1 {
				t.Errorf("%d: Get %d: %d, %d calls", want, k, got, calls)
			}
		}
	}
}

// 1.1: the answer is the first call's, not what its function would say later.
func TestAnswerStays(t *testing.T) {
	n := 3
	c := lazy.New(func() int { return n })
	n = 4
	if got := c.Get(); got != 4 {
		t.Errorf("the function runs at the first Get: %d", got)
	}
	n = 5
	if got := c.Get(); got != 4 {
		t.Errorf("the answer is kept: %d", got)
	}
}

// 1.1: Done turns at the first Get, and Done itself calls nothing.
func TestDone(t *testing.T) {
	calls := 0
	c := lazy.New(func() int {
		calls++
		return 2
	})
	for range 3 {
		if c.Done() || calls != 0 {
			t.Fatalf("ahead of a Get: %t, %d calls", c.Done(), calls)
		}
	}
	c.Get()
	for range 3 {
		if !c.Done() || calls != 1 {
			t.Fatalf("behind a Get: %t, %d calls", c.Done(), calls)
		}
	}
}

// 1.1: a Get that has not come back yet does not make it done.
func TestDoneInsideTheCall(t *testing.T) {
	var c *lazy.Cell
	inside := true
	c = lazy.New(func() int {
		inside = c.Done()
		return 1
	})
	if c.Get(); inside {
		t.Error("done while its function runs")
	}
	if !c.Done() {
		t.Error("not done behind its Get")
	}
}

// 1.1: of a nil function the answer is 0, and it is done by a Get like any.
func TestNilFunction(t *testing.T) {
	c := lazy.New(nil)
	if c == nil {
		t.Fatal("no cell")
	}
	if c.Done() {
		t.Error("done ahead of its first Get")
	}
	for k := range 3 {
		if got := c.Get(); got != 0 || !c.Done() {
			t.Errorf("Get %d: %d, %t", k, got, c.Done())
		}
	}
}

// 1.1: a panic goes on as it is; the cell is done, with 0, and not called again.
func TestPanic(t *testing.T) {
	wrong := errors.New("wrong")
	for _, with := range []any{"text", 7, wrong, 2.5, struct{ a, b int }{1, 2}} {
		calls := 0
		c := lazy.New(func() int {
			calls++
			panic(with)
		})
		if c.Done() {
			t.Errorf("%v: done ahead", with)
		}
		if _, panicked, got := getOrCatch(c); !panicked || got != with {
			t.Errorf("%v: %t, %v", with, panicked, got)
		}
		if !c.Done() || calls != 1 {
			t.Errorf("%v: %t, %d calls", with, c.Done(), calls)
		}
		for range 3 {
			got, panicked, _ := getOrCatch(c)
			if got != 0 || panicked || calls != 1 || !c.Done() {
				t.Errorf("%v: then: %d, %t, %d calls", with, got, panicked, calls)
			}
		}
	}
}

// 1.1: panics of the language itself go on too.
func TestPanicOfTheLanguage(t *testing.T) {
	var none []int
	c := lazy.New(func() int { return none[len(none)] })
	_, panicked, with := getOrCatch(c)
	if _, is := with.(runtime.Error); !panicked || !is || !c.Done() || c.Get() != 0 {
		t.Errorf("an index past the end: %t, %v", panicked, with)
	}
	c = lazy.New(func() int { panic(nil) })
	_, panicked, with = getOrCatch(c)
	if _, is := with.(*runtime.PanicNilError); !panicked || !is || !c.Done() || c.Get() != 0 {
		t.Errorf("a panic of nil: %t, %v", panicked, with)
	}
}

// 1.1: what a function had ready when it panicked is not its answer.
func TestPanicWithAnAnswerReady(t *testing.T) {
	c := lazy.New(func() (answer int) {
		answer = 9
		panic("late")
	})
	if _, panicked, _ := getOrCatch(c); !panicked || c.Get() != 0 {
		t.Errorf("%t, %d", panicked, c.Get())
	}
	calm := lazy.New(func() (answer int) {
		defer func() { recover() }()
		answer = 9
		panic("its own")
	})
	if got, panicked, _ := getOrCatch(calm); panicked || got != 9 {
		t.Errorf("a function that recovers answers: %t, %d", panicked, got)
	}
}

// R7: cells know nothing of one another, even those of one function.
func TestCellsApart(t *testing.T) {
	calls := 0
	f := func() int {
		calls++
		return calls
	}
	one, other := lazy.New(f), lazy.New(f)
	if one.Get() != 1 || other.Done() || other.Get() != 2 || one.Get() != 1 || other.Get() != 2 {
		t.Errorf("%d, %d", one.Get(), other.Get())
	}
	inner := lazy.New(func() int { return 5 })
	outer := lazy.New(func() int { return inner.Get() + 1 })
	if outer.Get() != 6 || !inner.Done() || inner.Get() != 5 {
		t.Errorf("a cell of a cell: %d, %d", outer.Get(), inner.Get())
	}
}

// R1: a nil cell answers nothing, and a cell that was never made doesn't panic.
func TestNilCell(t *testing.T) {
	var c *lazy.Cell
	if c.Done() || c.Get() != 0 || c.Done() {
		t.Errorf("a nil cell: %d, %t", c.Get(), c.Done())
	}
	var zero lazy.Cell
	zero.Done()
	zero.Get()
}

// 1.1, 1.2: Gets at one time are one call, and each sees its answer.
func TestGetsTogether(t *testing.T) {
	for range 50 {
		var calls lazy.Count
		c := lazy.New(func() int {
			n := calls.Add(1)
			runtime.Gosched()
			return 10 * n
		})
		together(16, func(int) {
			if got := c.Get(); got != 10 || !c.Done() {
				t.Errorf("%d, %t", got, c.Done())
			}
		})
		if calls.Now() != 1 {
			t.Fatalf("%d calls", calls.Now())
		}
	}
}

// 1.1: while one goroutine's Get runs, the cell is not done, and others wait.
func TestGetsWait(t *testing.T) {
	began, goOn := make(chan struct{}), make(chan struct{})
	c := lazy.New(func() int {
		close(began)
		<-goOn
		return 8
	})
	var wait sync.WaitGroup
	for range 4 {
		wait.Add(1)
		go func() {
			defer wait.Done()
			if got := c.Get(); got != 8 {
				t.Errorf("Get: %d", got)
			}
		}()
	}
	<-began
	if c.Done() {
		t.Error("done while its function runs")
	}
	close(goOn)
	wait.Wait()
	if !c.Done() {
		t.Error("not done behind")
	}
}

// 1.1: of several Gets at one time just one hands the panic on; the others are 0.
func TestPanicTogether(t *testing.T) {
	for range 50 {
		var calls, panics lazy.Count
		c := lazy.New(func() int {
			calls.Add(1)
			runtime.Gosched()
			panic("so")
		})
		together(16, func(int) {
			got, panicked, with := getOrCatch(c)
			if panicked {
				panics.Add(1)
			}
			if got != 0 || panicked && with != "so" || !c.Done() {
				t.Errorf("%d, %v, %t", got, with, c.Done())
			}
		})
		if calls.Now() != 1 || panics.Now() != 1 {
			t.Fatalf("%d calls, %d panics", calls.Now(), panics.Now())
		}
	}
}
