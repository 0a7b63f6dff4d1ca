package affine_test

import (
	"math"
	"math/big"

	"versal/angle"
	"versal/api"
)

// What follows works the chapter's words out in numbers of any length, so
// that nothing wraps round and nothing hangs on how the language divides.
// An affine is a list there: XX, YX, XY, YY, DX, DY.

type wide [6]*big.Int

const (
	xx = iota
	yx
	xy
	yy
	dx
	dy
)

func long(n int) *big.Int { return big.NewInt(int64(n)) }

func sum(list ...*big.Int) *big.Int {
	total := new(big.Int)
	for _, n := range list {
		total.Add(total, n)
	}
	return total
}

func minus(n *big.Int) *big.Int { return new(big.Int).Neg(n) }

func clip(n *big.Int) *big.Int {
	switch {
	case n.Cmp(long(api.Most)) > 0:
		return long(api.Most)
	case n.Cmp(long(-api.Most)) < 0:
		return long(-api.Most)
	}
	return n
}

// floor is the one quotient q with q d + r = n where r lies between 0 and d.
func floor(n, d *big.Int) *big.Int {
	q, r := new(big.Int).QuoRem(n, d, new(big.Int))
	if r.Sign() != 0 && r.Sign() != d.Sign() {
		q.Sub(q, long(1))
	}
	return q
}

func times(a, b *big.Int) *big.Int {
	product := new(big.Int).Mul(clip(a), clip(b))
	return clip(floor(sum(product, long(32768)), long(65536)))
}

// by is asked of a d that is not 0.
func by(n, d *big.Int) *big.Int {
	return clip(floor(new(big.Int).Mul(clip(n), long(65536)), clip(d)))
}

func widen(m api.Affine) wide {
	return wide{
		clip(long(m.XX)), clip(long(m.YX)), clip(long(m.XY)),
		clip(long(m.YY)), clip(long(m.DX)), clip(long(m.DY)),
	}
}

func narrow(m wide) api.Affine {
	return affineOf([6]int{
		int(m[xx].Int64()), int(m[yx].Int64()), int(m[xy].Int64()),
		int(m[yy].Int64()), int(m[dx].Int64()), int(m[dy].Int64()),
	})
}

func affineOf(n [6]int) api.Affine {
	return api.Affine{XX: n[xx], YX: n[yx], XY: n[xy], YY: n[yy], DX: n[dx], DY: n[dy]}
}

func applied(m wide, x, y *big.Int) (*big.Int, *big.Int) {
	u := sum(times(m[xx], x), times(m[xy], y), m[dx])
	v := sum(times(m[yx], x), times(m[yy], y), m[dy])
	return clip(u), clip(v)
}

func product(a, b wide) wide {
	var m wide
	m[xx] = clip(sum(times(a[xx], b[xx]), times(a[xy], b[yx])))
	m[yx] = clip(sum(times(a[yx], b[xx]), times(a[yy], b[yx])))
	m[xy] = clip(sum(times(a[xx], b[xy]), times(a[xy], b[yy])))
	m[yy] = clip(sum(times(a[yx], b[xy]), times(a[yy], b[yy])))
	m[dx], m[dy] = applied(a, b[dx], b[dy])
	return m
}

func shifted(x, y *big.Int) wide {
	return wide{long(65536), long(0), long(0), long(65536), clip(x), clip(y)}
}

func wantApply(m api.Affine, x, y int) (int, int) {
	u, v := applied(widen(m), clip(long(x)), clip(long(y)))
	return int(u.Int64()), int(v.Int64())
}

func wantMul(a, b api.Affine) api.Affine { return narrow(product(widen(a), widen(b))) }

func wantInverse(given api.Affine) (api.Affine, bool) {
	m := widen(given)
	d := clip(sum(times(m[xx], m[yy]), minus(times(m[xy], m[yx]))))
	if d.Sign() == 0 {
		return api.Affine{}, false
	}
	back := wide{by(m[yy], d), by(minus(m[yx]), d), by(minus(m[xy]), d), by(m[xx], d)}
	back[dx] = minus(clip(sum(times(back[xx], m[dx]), times(back[xy], m[dy]))))
	back[dy] = minus(clip(sum(times(back[yx], m[dx]), times(back[yy], m[dy]))))
	return narrow(back), true
}

func wantShift(x, y int) api.Affine { return narrow(shifted(long(x), long(y))) }

func wantScale(sx, sy int) api.Affine {
	return narrow(wide{clip(long(sx)), long(0), long(0), clip(long(sy)), long(0), long(0)})
}

func wantRotate(a int) api.Affine {
	return affineOf([6]int{angle.Cos(a), angle.Sin(a), 0 - angle.Sin(a), angle.Cos(a), 0, 0})
}

func wantSkew(ax, ay int) api.Affine {
	return affineOf([6]int{65536, angle.Tan(ay), 0 - angle.Tan(ax), 65536, 0, 0})
}

func wantAround(m api.Affine, x, y int) api.Affine {
	u, v := clip(long(x)), clip(long(y))
	return narrow(product(shifted(u, v), product(widen(m), shifted(minus(u), minus(v)))))
}

// ends answers the numbers beyond which none is, and those about them.
func ends() []int {
	return []int{
		math.MinInt, math.MinInt + 1, -1 << 40, -api.Most - 2, -api.Most - 1, -api.Most, -api.Most + 1,
		api.Most - 1, api.Most, api.Most + 1, api.Most + 2, 1 << 40, math.MaxInt - 1, math.MaxInt,
	}
}

// seeds answers the numbers about which something turns, each way.
func seeds() []int {
	list := append(ends(), 0)
	for _, n := range []int{
		1, 2, 3, 5, 100, 8192, 16384, 21845, 32767, 32768, 32769, 49152, 65535, 65536, 65537,
		98304, 131072, 196608, 1 << 23, 46341 << 8, 1 << 30,
	} {
		list = append(list, n, -n)
	}
	return list
}

// spread tells numbers without end, the same ones at each run: those that are
// told have at most as many bits, of both signs, and all lengths up to that.
func spread(bits int) func() int {
	state := uint64(88172645463325252)
	return func() int {
		state ^= state << 13
		state ^= state >> 7
		state ^= state << 17
		return int(state) >> (64 - bits + int(state>>40%uint64(bits)))
	}
}

func someAffine(next func() int) api.Affine {
	var n [6]int
	for k := range n {
		n[k] = next()
	}
	return affineOf(n)
}
