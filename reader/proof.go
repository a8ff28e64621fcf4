package reader

import (
	"strings"

	"ward/api"
	"ward/claims"
)

// Proof answers the claims of a proof for a program of so many lines, or the first error with its place.
func Proof(proof string, lines int) ([]claims.Claim, api.Errno, int) {
	if len(proof) > api.MaxProof {
		return nil, api.ErrLong, 0
	}
	list := make([]claims.Claim, 0, lines)
	for i, text := range strings.Split(proof, "\n") {
		c, ok := parseClaim(text)
		if !ok || i == lines {
			return nil, api.ErrProof, i
		}
		list = append(list, c)
	}
	if len(list) < lines {
		return nil, api.ErrProof, len(list)
	}
	return list, api.OK, 0
}

func parseClaim(text string) (claims.Claim, bool) {
	if text == "-" {
		return claims.Never(), true
	}
	parts := strings.Split(text, " ")
	if parts[0] != "ok" {
		return claims.Claim{}, false
	}
	c, last := claims.Claim{}, -1
	for _, part := range parts[1:] {
		r, span, ok := parseSpan(part)
		if !ok || r <= last {
			return claims.Claim{}, false
		}
		c, last = c.With(r, span), r
	}
	return c, true
}

// parseSpan reads R=a..b.
func parseSpan(text string) (int, claims.Span, bool) {
	register, span, _ := strings.Cut(text, "=")
	low, high, _ := strings.Cut(span, "..")
	r, okR := parseRegister(register)
	a, okA := parseNumber(low)
	b, okB := parseNumber(high)
	return r, claims.Span{Low: a, High: b}, okR && okA && okB && a <= b
}
