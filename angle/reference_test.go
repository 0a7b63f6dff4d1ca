package angle_test

import (
	"math"
	"math/big"

	"versal/api"
)

// What follows works the chapter's words out in numbers of any length, so
// that nothing wraps round and nothing hangs on how the language divides.

func long(n int) *big.Int { return big.NewInt(int64(n)) }

func sum(a, b *big.Int) *big.Int { return new(big.Int).Add(a, b) }

func less(a, b *big.Int) *big.Int { return new(big.Int).Sub(a, b) }

func times(first *big.Int, others ...*big.Int) *big.Int {
	product := new(big.Int).Set(first)
	for _, n := range others {
		product.Mul(product, n)
	}
	return product
}

// floor is the one quotient q with q d + r = n where r lies between 0 and d.
func floor(n, d *big.Int) *big.Int {
	q, r := new(big.Int).QuoRem(n, d, new(big.Int))
	if r.Sign() != 0 && r.Sign() != d.Sign() {
		q.Sub(q, long(1))
	}
	return q
}

func clip(n *big.Int) *big.Int {
	switch {
	case n.Cmp(long(api.Most)) > 0:
		return long(api.Most)
	case n.Cmp(long(-api.Most)) < 0:
		return long(-api.Most)
	}
	return n
}

// norm takes whole turns off, as many as there are, floored.
func norm(a *big.Int) *big.Int {
	return less(a, times(floor(a, long(65536)), long(65536)))
}

func sine(a *big.Int) *big.Int {
	n := norm(a)
	if n.Cmp(long(32768)) >= 0 {
		return less(long(0), sine(less(n, long(32768))))
	}
	p := times(n, less(long(32768), n))
	below := less(times(long(5), long(32768), long(32768)), times(long(4), p))
	return floor(times(long(16), p, long(65536)), below)
}

func cosine(a *big.Int) *big.Int { return sine(sum(norm(a), long(16384))) }

func tangent(a *big.Int) *big.Int {
	s, c := sine(a), cosine(a)
	if c.Sign() == 0 {
		return clip(times(s, long(api.Most)))
	}
	return clip(floor(times(s, long(65536)), c))
}

func seen(y, x *big.Int) *big.Int {
	y, x = clip(y), clip(x)
	if y.Sign() == 0 && x.Sign() == 0 {
		return long(0)
	}
	u, v := new(big.Int).Abs(x), new(big.Int).Abs(y)
	steep := v.Cmp(u) > 0
	if steep {
		u, v = v, u
	}
	z := floor(times(v, long(65536)), u)
	q := floor(sum(times(long(8192), z, long(65536)), times(long(2847), z, less(long(65536), z))), long(1<<32))
	if steep {
		q = less(long(16384), q)
	}
	if x.Sign() < 0 {
		q = less(long(32768), q)
	}
	if y.Sign() < 0 {
		q = norm(less(long(0), q))
	}
	return q
}

func wantNorm(a int) int { return int(norm(long(a)).Int64()) }

func wantSin(a int) int { return int(sine(long(a)).Int64()) }

func wantCos(a int) int { return int(cosine(long(a)).Int64()) }

func wantTan(a int) int { return int(tangent(long(a)).Int64()) }

func wantAtan(y, x int) int { return int(seen(long(y), long(x)).Int64()) }

// seeds answers the numbers about which something turns, each way.
func seeds() []int {
	list := []int{math.MinInt, math.MinInt + 1, math.MinInt + 16384, math.MinInt + 32768, math.MinInt + 49152}
	for _, n := range []int{
		0, 1, 2, 3, 5, 100, 8191, 8192, 8193, 16383, 16384, 16385, 24576, 32767, 32768, 32769,
		40960, 49151, 49152, 49153, 57344, 65535, 65536, 65537, 81920, 98304, 131072, 1 << 20, 1 << 30,
		api.Most - 1, api.Most, api.Most + 1, api.Most + 2, 1 << 32, 1<<40 + 1, 1 << 47, 1 << 62,
		math.MaxInt - 65536, math.MaxInt - 49152, math.MaxInt - 32768, math.MaxInt - 16384, math.MaxInt - 1, math.MaxInt,
	} {
		list = append(list, n, -n)
	}
	return list
}

// spread answers numbers of all lengths and both signs, the same ones at each run.
func spread(count int) []int {
	list := make([]int, count)
	state := uint64(88172645463325252)
	for k := range list {
		state ^= state << 13
		state ^= state >> 7
		state ^= state << 17
		list[k] = int(state) >> (state >> 40 % 63)
	}
	return list
}
