package claims

import "math"

// Span is the numbers from Low to High.
type Span struct{ Low, High int64 }

// All is every number of 64 bits.
func All() Span { return Span{math.MinInt64, math.MaxInt64} }

// One is a span of one number.
func One(n int64) Span { return Span{n, n} }

func (s Span) within(t Span) bool { return s.Low >= t.Low && s.High <= t.High }

// Add is from the least to the greatest of the sums.
func Add(r, s Span) Span {
	return among(plus, [2]int64{r.Low, s.Low}, [2]int64{r.High, s.High})
}

// Sub is likewise of r less s.
func Sub(r, s Span) Span {
	return among(less, [2]int64{r.Low, s.High}, [2]int64{r.High, s.Low})
}

// Mul is likewise of r times s.
func Mul(r, s Span) Span { return among(times, corners(r, s)...) }

// Div is likewise of r by s; no end of s is 0.
func Div(r, s Span) Span { return among(by, corners(r, s)...) }

// And is likewise of r and s, bit by bit: a number that is not below 0 keeps what comes of it from 0 to itself, whatever the other one is.
func And(r, s Span) Span {
	switch {
	case r.Low >= 0 && s.Low >= 0:
		return Span{0, min(r.High, s.High)}
	case r.Low >= 0:
		return Span{0, r.High}
	case s.Low >= 0:
		return Span{0, s.High}
	}
	return All()
}

func corners(r, s Span) [][2]int64 {
	return [][2]int64{{r.Low, s.Low}, {r.Low, s.High}, {r.High, s.Low}, {r.High, s.High}}
}

// among is from the least to the greatest of what op makes of the pairs. If one of these is no number of 64 bits, a run's number may have come in again at the other end, and nothing is known.
func among(op func(a, b int64) (int64, bool), pairs ...[2]int64) Span {
	out := Span{math.MaxInt64, math.MinInt64}
	for _, p := range pairs {
		n, fits := op(p[0], p[1])
		if !fits {
			return All()
		}
		out = Span{min(out.Low, n), max(out.High, n)}
	}
	return out
}

func plus(a, b int64) (int64, bool) {
	n := a + b
	return n, (n < a) == (b < 0)
}

func less(a, b int64) (int64, bool) {
	n := a - b
	return n, (n > a) == (b < 0)
}

// times divides to see whether the product came in again at the other end; with -1 and the least number, and with them alone, that does not show.
func times(a, b int64) (int64, bool) {
	if a == 0 {
		return 0, true
	}
	n := a * b
	return n, n/a == b && (a != -1 || b != math.MinInt64)
}

func by(a, b int64) (int64, bool) {
	return a / b, a != math.MinInt64 || b != -1
}

// Less is what is so of r and s if r is less than s; false, if that can't be.
func Less(r, s Span) (Span, Span, bool) {
	// Asked first, as neither one less than the least number nor one more than the greatest one is a number of 64 bits.
	if r.Low >= s.High {
		return Span{}, Span{}, false
	}
	return Span{r.Low, min(r.High, s.High-1)}, Span{max(s.Low, r.Low+1), s.High}, true
}

// NotLess is what is so if r is not less than s.
func NotLess(r, s Span) (Span, Span, bool) {
	if s.Low > r.High {
		return Span{}, Span{}, false
	}
	return Span{max(r.Low, s.Low), r.High}, Span{s.Low, min(s.High, r.High)}, true
}

// Same is what is so if r is s.
func Same(r, s Span) (Span, Span, bool) {
	both := Span{max(r.Low, s.Low), min(r.High, s.High)}
	if both.Low > both.High {
		return Span{}, Span{}, false
	}
	return both, both, true
}

// NotSame is what is so if r is not s: nothing more.
func NotSame(r, s Span) (Span, Span, bool) {
	if r == s && r.Low == r.High {
		return Span{}, Span{}, false
	}
	return r, s, true
}
