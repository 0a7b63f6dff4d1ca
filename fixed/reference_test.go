package fixed_test

import (
	"math"
	"math/big"

	"versal/api"
)

// What follows works the chapter's words out in numbers of any length, so
// that nothing wraps round and nothing hangs on how the language divides.

func long(n int) *big.Int { return big.NewInt(int64(n)) }

func sum(a, b *big.Int) *big.Int { return new(big.Int).Add(a, b) }

func less(a, b *big.Int) *big.Int { return new(big.Int).Sub(a, b) }

func times(a, b *big.Int) *big.Int { return new(big.Int).Mul(a, b) }

func within(n, most *big.Int) *big.Int {
	least := new(big.Int).Neg(most)
	if n.Cmp(least) < 0 {
		return least
	}
	if n.Cmp(most) > 0 {
		return most
	}
	return n
}

func clip(n *big.Int) *big.Int { return within(n, long(api.Most)) }

// floor is the one quotient q with q d + r = n where r lies between 0 and d.
func floor(n, d *big.Int) *big.Int {
	q, r := new(big.Int).QuoRem(n, d, new(big.Int))
	if r.Sign() != 0 && r.Sign() != d.Sign() {
		q.Sub(q, long(1))
	}
	return q
}

func mul(a, b *big.Int) *big.Int {
	return clip(floor(sum(times(clip(a), clip(b)), long(32768)), long(65536)))
}

func wantClip(n int) int { return int(clip(long(n)).Int64()) }

func wantMul(a, b int) int { return int(mul(long(a), long(b)).Int64()) }

func wantDiv(a, b int) int {
	switch {
	case b != 0:
		return int(clip(floor(times(clip(long(a)), long(65536)), clip(long(b)))).Int64())
	case a > 0:
		return api.Most
	case a < 0:
		return -api.Most
	}
	return 0
}

func wantLerp(a, b, t int) int {
	from, to := clip(long(a)), clip(long(b))
	return int(clip(sum(from, mul(less(to, from), long(t)))).Int64())
}

func wantRound(a int) int {
	return int(clip(floor(sum(clip(long(a)), long(32768)), long(65536))).Int64())
}

func wantWhole(n int) int { return int(clip(times(clip(long(n)), long(65536))).Int64()) }

func wantFrom14(n int) int { return int(clip(times(clip(long(n)), long(4))).Int64()) }

func wantRatio(n, d int) int {
	if d == 0 {
		return 0
	}
	a, b := within(long(n), long(1<<46)), within(long(d), long(1<<46))
	return int(clip(floor(times(a, long(65536)), b)).Int64())
}

// isRoot holds a root against the words: its square is not above, the next one's is.
func isRoot(r, n int) bool {
	next := r + 1
	return r >= 0 && times(long(r), long(r)).Cmp(long(n)) <= 0 && times(long(next), long(next)).Cmp(long(n)) > 0
}

// seeds answers the numbers about which something turns, each way.
func seeds() []int {
	list := []int{math.MinInt, math.MinInt + 1}
	for _, n := range []int{
		0, 1, 2, 3, 5, 7, 100, 16384, 21845, 32767, 32768, 65535, 65536, 98304, 131072, 196608,
		1 << 29, 1 << 30, 32767 << 16, api.Most - 1, api.Most, api.Most + 1, 1 << 32, 1 << 40,
		1<<46 - 1, 1 << 46, 1<<46 + 1, 1 << 47, 1<<48 + 12345, 1 << 50, 1 << 62, math.MaxInt - 1, math.MaxInt,
	} {
		list = append(list, n, -n)
	}
	return list
}

// spread answers numbers of all lengths and both signs, the same ones at each run.
func spread(count int) []int {
	list := make([]int, count)
	state := uint64(88172645463325252)
	for k := range list {
		state ^= state << 13
		state ^= state >> 7
		state ^= state << 17
		list[k] = int(state) >> (state >> 40 % 63)
	}
	return list
}
