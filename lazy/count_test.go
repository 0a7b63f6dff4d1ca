package lazy_test

import (
	"math"
	"testing"

	"versal/lazy"
)

// 1.2: the zero value is 0, however it came about.
func TestCountZero(t *testing.T) {
	var c lazy.Count
	held := struct{ a, b lazy.Count }{}
	if c.Now() != 0 || new(lazy.Count).Now() != 0 || held.a.Now() != 0 {
		t.Error("not 0")
	}
	held.a.Add(3)
	if held.a.Now() != 3 || held.b.Now() != 0 || c.Now() != 0 {
		t.Error("R7: counts know of one another")
	}
}

// 1.2: Add answers what the count is then, and Now tells the same.
func TestAdd(t *testing.T) {
	var c lazy.Count
	for k, x := range []struct{ n, then int }{
		{0, 0}, {1, 1}, {41, 42}, {0, 42}, {-50, -8}, {-1, -9}, {9, 0},
		{1 << 31, 1 << 31}, {1 << 40, 1<<40 + 1<<31}, {-1 << 41, 1<<31 - 1<<40},
	} {
		if got := c.Add(x.n); got != x.then || c.Now() != x.then || c.Now() != x.then {
			t.Errorf("Add %d: %d, %d, not %d", k, got, c.Now(), x.then)
		}
	}
}

// 1.2: Raise turns the count only from below, and tells whether it did.
func TestRaise(t *testing.T) {
	for k, x := range []struct {
		from, n int
		is      bool
		then    int
	}{
		{0, 1, true, 1}, {0, 0, false, 0}, {0, -1, false, 0},
		{5, 4, false, 5}, {5, 5, false, 5}, {5, 6, true, 6},
		{-5, -6, false, -5}, {-5, -5, false, -5}, {-5, -4, true, -4},
		{-5, 0, true, 0}, {-5, 5, true, 5}, {5, -5, false, 5},
		{0, 1 << 40, true, 1 << 40}, {1 << 40, 1, false, 1 << 40},
		{0, math.MaxInt, true, math.MaxInt}, {math.MaxInt, math.MaxInt, false, math.MaxInt},
		{0, math.MinInt, false, 0}, {math.MinInt, math.MinInt, false, math.MinInt},
		{math.MinInt, math.MaxInt, true, math.MaxInt}, {math.MaxInt, math.MinInt, false, math.MaxInt},
	} {
		var c lazy.Count
		c.Add(x.from)
		if is := c.Raise(x.n); is != x.is || c.Now() != x.then {
			t.Errorf("%d: Raise(%d) of %d: %t, %d", k, x.n, x.from, is, c.Now())
		}
		if c.Raise(x.n) || c.Now() != x.then {
			t.Errorf("%d: a second Raise(%d) of %d: %d", k, x.n, x.from, c.Now())
		}
	}
}

// 1.2: what was raised is added to from there.
func TestRaiseThenAdd(t *testing.T) {
	var c lazy.Count
	if !c.Raise(10) || c.Add(-3) != 7 || c.Raise(7) || !c.Raise(8) || c.Add(1) != 9 {
		t.Errorf("%d", c.Now())
	}
}

// R1: a nil count answers nothing.
func TestNilCount(t *testing.T) {
	var c *lazy.Count
	if c.Add(5) != 0 || c.Now() != 0 || c.Raise(5) || c.Raise(-5) || c.Add(-5) != 0 {
		t.Error("a nil count answers")
	}
}

// The numbers of steps below are great enough that a Count which is read and
// written in two steps is found out nearly always, and small enough to be quick.
const (
	hands = 8
	steps = 200000
)

// 1.2: of Adds at one time none is lost, and no two answer the same.
func TestAddsTogether(t *testing.T) {
	var c lazy.Count
	var answers [hands][]int
	together(hands, func(k int) {
		answers[k] = make([]int, steps)
		for i := range steps {
			answers[k][i] = c.Add(1)
		}
	})
	if c.Now() != hands*steps {
		t.Errorf("%d in all", c.Now())
	}
	seen := make([]int, hands*steps+1)
	for k := range answers {
		for _, n := range answers[k] {
			if n < 1 || n > hands*steps || seen[n] != 0 {
				t.Fatalf("%d was answered out of turn", n)
			}
			seen[n]++
		}
	}
}

// 1.2: of Raises to one number at one time just one finds the count below.
func TestRaisesToOneNumber(t *testing.T) {
	var c lazy.Count
	raised := make([]lazy.Count, steps+1)
	together(hands, func(int) {
		for n := 1; n <= steps; n++ {
			if c.Raise(n) {
				raised[n].Add(1)
			}
		}
	})
	if c.Now() != steps || raised[steps].Now() != 1 {
		t.Errorf("%d in the end, %d times", c.Now(), raised[steps].Now())
	}
	for n := range raised {
		if raised[n].Now() > 1 {
			t.Fatalf("raised to %d %d times", n, raised[n].Now())
		}
	}
}

// 1.2: behind a Raise the count is never below, whatever others raise it to.
func TestRaisesToManyNumbers(t *testing.T) {
	var c, low lazy.Count
	together(hands, func(k int) {
		last := 0
		for i := range steps {
			n := hands*i + k
			c.Raise(n)
			now := c.Now()
			if now < n || now < last {
				low.Add(1)
			}
			last = now
		}
	})
	if low.Now() != 0 || c.Now() != hands*steps-1 {
		t.Errorf("%d times below, %d in the end", low.Now(), c.Now())
	}
}

// 1.2: a Raise between Adds loses none of them: each is either ahead of the
// last Raise that found the count below, or counted on top of it.
func TestRaiseAmongAdds(t *testing.T) {
	const rounds = 200
	for range rounds {
		var c, behind, raises lazy.Count
		const high = 1 << 20
		together(hands, func(int) {
			for range 50 {
				if c.Add(1) > high {
					behind.Add(1)
				}
				if c.Raise(high) {
					raises.Add(1)
				}
			}
		})
		if raises.Now() != 1 || c.Now() != high+behind.Now() {
			t.Fatalf("%d raises, %d, not %d", raises.Now(), c.Now(), high+behind.Now())
		}
	}
}

// 1.2: Raises that find nothing below leave what is added meanwhile.
func TestRaiseBelowAdds(t *testing.T) {
	var c, raises lazy.Count
	together(hands, func(int) {
		for range steps {
			c.Add(1)
			if c.Raise(1) || c.Raise(0) || c.Raise(-1) {
				raises.Add(1)
			}
		}
	})
	if c.Now() != hands*steps || raises.Now() != 0 {
		t.Errorf("%d in all, %d raises", c.Now(), raises.Now())
	}
}
