package claims

import "math"

// Join is what both claims say: it is so wherever one of them is.
func (c Claim) Join(with Claim) Claim {
	if c.Never {
		return with
	}
	if with.Never {
		return c
	}
	out := Claim{}
	for r, has := range c.has {
		if has && with.has[r] {
			out = out.With(r, c.spans[r].join(with.spans[r]))
		}
	}
	return out
}

// LetGo is the claim with each end of a span that grew beyond what it was let go: however much further it might grow, it changes no more.
func (c Claim) LetGo(was Claim) Claim {
	for r, has := range c.has {
		if has && was.has[r] {
			c.spans[r] = c.spans[r].letGo(was.spans[r])
		}
	}
	return c
}

func (s Span) join(t Span) Span {
	return Span{min(s.Low, t.Low), max(s.High, t.High)}
}

func (s Span) letGo(was Span) Span {
	if s.Low < was.Low {
		s.Low = math.MinInt64
	}
	if s.High > was.High {
		s.High = math.MaxInt64
	}
	return s
}
