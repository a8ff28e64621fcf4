package claims

import "testing"

// TestClaimsAreValues: a claim that is worked on stays as it was, and two that say the same are the same.
func TestClaimsAreValues(t *testing.T) {
	c := Start()
	d := c.With(1, One(7))
	if c != Start() || c.Has(1) || !d.Has(1) || d.Span(1) != One(7) || d.Span(0) != (Span{0, 64}) {
		t.Errorf("%+v became %+v", c, d)
	}
	if (Claim{}).With(1, One(7)).With(0, Span{0, 64}) != d {
		t.Error("the same claim in another order is another one")
	}
	if d.With(1, One(8)) == d || Never() == (Claim{}) {
		t.Error("claims that say different things are the same")
	}
}

func TestFollows(t *testing.T) {
	list := []Claim{Never(), Start().With(1, One(7)), Start(), {}}
	// Each says less than the one ahead of it.
	for i, c := range list {
		for j, from := range list {
			if c.Follows(from) != (j <= i) {
				t.Errorf("%+v follows from %+v: %t", c, from, c.Follows(from))
			}
		}
	}
}
