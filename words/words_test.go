package words

import (
	"slices"
	"testing"

	"ward/claims"
)

func TestFind(t *testing.T) {
	names := []string{"set", "mov", "add", "sub", "mul", "and", "div", "in", "get", "put", "load", "keep", "out", "jmp", "jlt", "jeq", "end"}
	rows := Rows()
	for _, name := range names {
		row, ok := Find(rows, name)
		if !ok || rows[row].Name != name {
			t.Errorf("no row for %q", name)
		}
	}
	if len(rows) != len(names) {
		t.Errorf("%d rows, want %d", len(rows), len(names))
	}
	for _, name := range []string{"", "Set", "nop", "set ", "en"} {
		if _, ok := Find(rows, name); ok {
			t.Errorf("a row for %q", name)
		}
	}
	if _, ok := Find(nil, "set"); ok {
		t.Error("a row of no rows")
	}
}

// TestRowsAreNew: whoever asks for rows has them alone.
func TestRowsAreNew(t *testing.T) {
	spoiled := Rows()
	clear(spoiled)
	if Rows()[0].Name != "set" {
		t.Error("rows share their memory")
	}
}

// TestRowsFit: a word takes no register that it does not name, and goes no way that it has not.
func TestRowsFit(t *testing.T) {
	for _, w := range Rows() {
		if w.Do == nil || w.Needs == nil || w.Next == nil || w.Jump == nil {
			t.Fatalf("%s lacks a closure", w.Name)
		}
		hasR, hasS := w.Parts[0] == 'R', len(w.Parts) > 1 && w.Parts[1] == 'S'
		if w.TakesR() && !hasR || w.TakesS() && !hasS {
			t.Errorf("%s takes %q of %q", w.Name, w.Takes, w.Parts)
		}
		if w.Falls == (w.Name == "jmp" || w.Name == "end") {
			t.Errorf("%s falls: %t", w.Name, w.Falls)
		}
		c := claims.Claim{}.With(1, claims.One(1)).With(2, claims.Span{Low: 1, High: 2})
		l := Line{R: 1, S: 2, N: 30}
		if next := w.Next(c, l); next.Never == w.Falls {
			t.Errorf("%s leads to the next line: %t", w.Name, !next.Never)
		}
		if jump := w.Jump(c, l); jump.Never == w.Jumps() {
			t.Errorf("%s leads to L: %t", w.Name, !jump.Never)
		}
	}
}

// TestExits: the next line comes ahead of L, and ways that are not gone do not come at all.
func TestExits(t *testing.T) {
	rows := Rows()
	jlt, _ := Find(rows, "jlt")
	for _, c := range []struct {
		r, s claims.Span
		want []int
	}{
		{claims.All(), claims.All(), []int{8, 3}},
		{claims.One(1), claims.One(2), []int{3}},
		{claims.One(2), claims.One(2), []int{8}},
	} {
		claim := claims.Claim{}.With(1, c.r).With(2, c.s)
		var to []int
		for _, exit := range rows[jlt].Exits(7, Line{Word: jlt, R: 1, S: 2, N: 3}, claim) {
			to = append(to, exit.To)
		}
		if !slices.Equal(to, c.want) {
			t.Errorf("with %v and %v the ways out of line 7 lead to %v, want %v", c.r, c.s, to, c.want)
		}
	}
}
