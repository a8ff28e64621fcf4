// Package claims: what is claimed of the registers at a line.
package claims

import "ward/api"

// Claim says never (no run comes to the line), or for some registers that they are set, and in which span. It is a plain value: two claims that say the same are the same.
type Claim struct {
	Never bool
	has   [api.Registers]bool
	spans [api.Registers]Span
}

// Never is the claim that no run comes to the line.
func Never() Claim { return Claim{Never: true} }

// Start is what is so ahead of line 0: r0 counts the bytes of the input.
func Start() Claim { return Claim{}.With(0, Span{0, api.Input}) }

// Has tells whether a claim says something of a register.
func (c Claim) Has(r int) bool { return c.has[r] }

// Span is what a claim says of a register.
func (c Claim) Span(r int) Span { return c.spans[r] }

// With is the claim with a register in this span.
func (c Claim) With(r int, s Span) Claim {
	c.has[r], c.spans[r] = true, s
	return c
}

// Follows tells whether a claim follows from another one.
func (c Claim) Follows(from Claim) bool {
	if from.Never || c.Never {
		return from.Never
	}
	for r, has := range c.has {
		if has && (!from.has[r] || !from.spans[r].within(c.spans[r])) {
			return false
		}
	}
	return true
}
