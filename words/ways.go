package words

import "ward/claims"

// nothing makes the need of a word that can't go wrong once the registers that it takes are set.
func nothing() Need {
	return func(c claims.Claim, l Line) bool { return true }
}

// divisor makes the need that S is not 0.
func divisor() Need {
	return func(c claims.Claim, l Line) bool {
		s := c.Span(l.S)
		return s.Low > 0 || s.High < 0
	}
}

// placeR makes the need that R is a place that there is.
func placeR(places int64) Need {
	return func(c claims.Claim, l Line) bool { return isPlace(c.Span(l.R), places) }
}

// placeS makes the same need of S.
func placeS(places int64) Need {
	return func(c claims.Claim, l Line) bool { return isPlace(c.Span(l.S), places) }
}

func isPlace(s claims.Span, places int64) bool {
	return s.Low >= 0 && s.High < places
}

// nowhere makes a way that is never gone.
func nowhere() Way {
	return func(c claims.Claim, l Line) claims.Claim { return claims.Never() }
}

// same makes the way of a word that sets no register.
func same() Way {
	return func(c claims.Claim, l Line) claims.Claim { return c }
}

// sets makes the way of a word that sets R.
func sets(span func(c claims.Claim, l Line) claims.Span) Way {
	return func(c claims.Claim, l Line) claims.Claim { return c.With(l.R, span(c, l)) }
}

// reckons makes the way of a word that sets R to what comes of R and S.
func reckons(op func(r, s claims.Span) claims.Span) Way {
	return sets(func(c claims.Claim, l Line) claims.Span { return op(c.Span(l.R), c.Span(l.S)) })
}

// fetches makes the way of a word that sets R to what stands at a place: of that the claim knows no more than what kind it is.
func fetches(kind claims.Span) Way {
	return sets(func(c claims.Claim, l Line) claims.Span { return kind })
}

// turn makes a way of a jump that holds R against S; alike is the way if they are the same register.
func turn(alike Way, narrow func(r, s claims.Span) (claims.Span, claims.Span, bool)) Way {
	return func(c claims.Claim, l Line) claims.Claim {
		if l.R == l.S {
			return alike(c, l)
		}
		r, s, gone := narrow(c.Span(l.R), c.Span(l.S))
		if !gone {
			return claims.Never()
		}
		return c.With(l.R, r).With(l.S, s)
	}
}
