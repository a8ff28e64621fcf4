package claims

import (
	"math"
	"testing"
)

// TestClaimsAreValues: a claim that is worked on stays as it was, and two that say the same are the same.
func TestClaimsAreValues(t *testing.T) {
	c := Start()
	d := c.With(1, One(7))
	if c != Start() || c.Has(1) || !d.Has(1) || d.Span(1) != One(7) || d.Span(0) != (Span{0, 64}) {
		t.Errorf("%+v became %+v", c, d)
	}
	if (Claim{}).With(1, One(7)).With(0, Span{0, 64}) != d {
		t.Error("the same claim in another order is another one")
	}
	if d.With(1, One(8)) == d || Never() == (Claim{}) {
		t.Error("claims that say different things are the same")
	}
}

func TestFollows(t *testing.T) {
	list := []Claim{Never(), Start().With(1, One(7)), Start(), {}}
	// Each says less than the one ahead of it.
	for i, c := range list {
		for j, from := range list {
			if c.Follows(from) != (j <= i) {
				t.Errorf("%+v follows from %+v: %t", c, from, c.Follows(from))
			}
		}
	}
}

// TestJoin: what both say, whichever is told first; a claim and never is the claim itself.
func TestJoin(t *testing.T) {
	none := Claim{}
	c := none.With(1, Span{-3, 5}).With(2, One(7)).With(3, Span{0, 9})
	for _, k := range []struct{ c, d, want Claim }{
		{c, c, c}, {c, Never(), c}, {Never(), Never(), Never()}, {c, none, none}, {none, Never(), none}, {Start(), c, none},
		{c, none.With(1, Span{-4, 4}), none.With(1, Span{-4, 5})},
		{c, none.With(1, Span{-2, 6}).With(4, One(1)), none.With(1, Span{-3, 6})},
		{c, none.With(2, One(9)).With(3, One(4)), none.With(2, Span{7, 9}).With(3, Span{0, 9})},
		{c, none.With(2, All()).With(7, All()), none.With(2, All())},
	} {
		if got := k.c.Join(k.d); got != k.want {
			t.Errorf("%+v and %+v: %+v, want %+v", k.c, k.d, got, k.want)
		}
		if got := k.d.Join(k.c); got != k.want {
			t.Errorf("%+v and %+v: %+v, want %+v", k.d, k.c, got, k.want)
		}
		if !k.want.Follows(k.c) || !k.want.Follows(k.d) {
			t.Errorf("%+v does not follow from %+v, or from %+v", k.want, k.c, k.d)
		}
	}
}

// TestLetGo: just the ends that grew.
func TestLetGo(t *testing.T) {
	none := Claim{}
	was := none.With(1, Span{-3, 5}).With(2, Span{-3, 5})
	const low, high = math.MinInt64, math.MaxInt64
	for _, k := range []struct{ now, want Span }{
		{Span{-3, 5}, Span{-3, 5}}, {Span{-4, 5}, Span{low, 5}}, {Span{-3, 6}, Span{-3, high}}, {Span{-4, 6}, All()}, {Span{low, 5}, Span{low, 5}}, {Span{-3, high}, Span{-3, high}}, {Span{-2, 4}, Span{-2, 4}},
	} {
		if got := was.With(1, k.now).LetGo(was); got != was.With(1, k.want) {
			t.Errorf("%v let go: %+v, want %v", k.now, got, k.want)
		}
		// A register that is gone stays gone.
		if got := none.With(1, k.now).LetGo(was); got != none.With(1, k.want) {
			t.Errorf("%v let go alone: %+v, want %v", k.now, got, k.want)
		}
	}
	if got := was.LetGo(Never()); got != was {
		t.Errorf("what comes behind never, let go: %+v", got)
	}
	if got := was.LetGo(none); got != was {
		t.Errorf("registers that were not there, let go: %+v", got)
	}
}

func TestText(t *testing.T) {
	for _, k := range []struct {
		list []Claim
		want string
	}{
		{nil, ""}, {[]Claim{Never()}, "-"}, {[]Claim{{}}, "ok"}, {[]Claim{Start()}, "ok r0=0..64"},
		{[]Claim{Start().With(7, All()).With(3, One(-1)), Never(), {}, Claim{}.With(1, Span{-10, -2})}, "ok r0=0..64 r3=-1..-1 r7=-9223372036854775808..9223372036854775807\n-\nok\nok r1=-10..-2"},
	} {
		if got := Text(k.list); got != k.want {
			t.Errorf("%+v is %q, want %q", k.list, got, k.want)
		}
	}
}
