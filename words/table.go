package words

import (
	"ward/api"
	"ward/claims"
	"ward/machine"
)

// Rows makes the table's rows: name, parts, takes, falls; what the word does to numbers; what it needs of a claim, and what it does to one on the way to the next line, and to L. They are new ones at each call.
func Rows() []Word {
	return []Word{
		{"set", "Rn", "", true, become(func(m *machine.Machine, l Line) int64 { return l.N }),
			nothing(), sets(func(c claims.Claim, l Line) claims.Span { return claims.One(l.N) }), nowhere()},
		{"mov", "RS", "S", true, become(func(m *machine.Machine, l Line) int64 { return m.Number(l.S) }),
			nothing(), sets(func(c claims.Claim, l Line) claims.Span { return c.Span(l.S) }), nowhere()},
		{"add", "RS", "RS", true, reckon(func(a, b int64) (int64, int) { return a + b, 0 }),
			nothing(), reckons(claims.Add), nowhere()},
		{"sub", "RS", "RS", true, reckon(func(a, b int64) (int64, int) { return a - b, 0 }),
			nothing(), reckons(claims.Sub), nowhere()},
		{"mul", "RS", "RS", true, reckon(func(a, b int64) (int64, int) { return a * b, 0 }),
			nothing(), reckons(claims.Mul), nowhere()},
		{"and", "RS", "RS", true, reckon(func(a, b int64) (int64, int) { return a & b, 0 }),
			nothing(), reckons(claims.And), nowhere()},
		{"div", "RS", "RS", true, reckon(divide),
			divisor(), reckons(claims.Div), nowhere()},
		{"in", "RS", "S", true, fetch(api.Input, func(m *machine.Machine, i int64) int64 { return int64(m.Input[i]) }),
			placeS(api.Input), fetches(claims.Span{Low: 0, High: 255}), nowhere()},
		{"get", "RS", "S", true, fetch(api.Cells, func(m *machine.Machine, i int64) int64 { return m.Cells[i] }),
			placeS(api.Cells), fetches(claims.All()), nowhere()},
		{"put", "RS", "RS", true, store(api.Cells, func(m *machine.Machine, i, n int64) { m.Cells[i] = n }),
			placeR(api.Cells), same(), nowhere()},
		{"load", "RS", "S", true, fetch(api.Kept, func(m *machine.Machine, i int64) int64 { return m.Kept[i] }),
			placeS(api.Kept), fetches(claims.All()), nowhere()},
		{"keep", "RS", "RS", true, store(api.Kept, func(m *machine.Machine, i, n int64) { m.Kept[i] = n }),
			placeR(api.Kept), same(), nowhere()},
		{"out", "R", "R", true, hand(func(m *machine.Machine, n int64) { m.PutOut(n) }),
			nothing(), same(), nowhere()},
		{"jmp", "L", "", false, jump(func(m *machine.Machine, l Line) bool { return true }),
			nothing(), nowhere(), same()},
		{"jlt", "RSL", "RS", true, jump(func(m *machine.Machine, l Line) bool { return m.Number(l.R) < m.Number(l.S) }),
			nothing(), turn(same(), claims.NotLess), turn(nowhere(), claims.Less)},
		{"jeq", "RSL", "RS", true, jump(func(m *machine.Machine, l Line) bool { return m.Number(l.R) == m.Number(l.S) }),
			nothing(), turn(nowhere(), claims.NotSame), turn(same(), claims.Same)},
		{"end", "R", "R", false, hand(func(m *machine.Machine, n int64) { m.End(n) }),
			nothing(), nowhere(), nowhere()},
	}
}
