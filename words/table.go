package words

import (
	"ward/api"
	"ward/machine"
)

// makeTable writes the rows down: name, parts, takes, falls, do.
func makeTable() []Word {
	return []Word{
		{"set", "Rn", "", true, become(func(m *machine.Machine, l Line) int64 { return l.N })},
		{"mov", "RS", "S", true, become(func(m *machine.Machine, l Line) int64 { return m.Number(l.S) })},
		{"add", "RS", "RS", true, reckon(func(a, b int64) (int64, int) { return a + b, 0 })},
		{"sub", "RS", "RS", true, reckon(func(a, b int64) (int64, int) { return a - b, 0 })},
		{"mul", "RS", "RS", true, reckon(func(a, b int64) (int64, int) { return a * b, 0 })},
		{"and", "RS", "RS", true, reckon(func(a, b int64) (int64, int) { return a & b, 0 })},
		{"div", "RS", "RS", true, reckon(divide)},
		{"in", "RS", "S", true, fetch(api.Input, func(m *machine.Machine, i int64) int64 { return int64(m.Input[i]) })},
		{"get", "RS", "S", true, fetch(api.Cells, func(m *machine.Machine, i int64) int64 { return m.Cells[i] })},
		{"put", "RS", "RS", true, store(api.Cells, func(m *machine.Machine, i, n int64) { m.Cells[i] = n })},
		{"load", "RS", "S", true, fetch(api.Kept, func(m *machine.Machine, i int64) int64 { return m.Kept[i] })},
		{"keep", "RS", "RS", true, store(api.Kept, func(m *machine.Machine, i, n int64) { m.Kept[i] = n })},
		{"out", "R", "R", true, hand(func(m *machine.Machine, n int64) { m.PutOut(n) })},
		{"jmp", "L", "", false, jump(func(m *machine.Machine, l Line) bool { return true })},
		{"jlt", "RSL", "RS", true, jump(func(m *machine.Machine, l Line) bool { return m.Number(l.R) < m.Number(l.S) })},
		{"jeq", "RSL", "RS", true, jump(func(m *machine.Machine, l Line) bool { return m.Number(l.R) == m.Number(l.S) })},
		{"end", "R", "R", false, hand(func(m *machine.Machine, n int64) { m.End(n) })},
	}
}

// become makes the act of a word that sets R and can't go wrong.
func become(number func(m *machine.Machine, l Line) int64) Act {
	return func(m *machine.Machine, l Line) int {
		m.Set(l.R, number(m, l))
		return 0
	}
}

// reckon makes the act of a word that sets R to what comes of R and S. The operations lean on int64, which wraps round as the registers must.
func reckon(op func(a, b int64) (int64, int)) Act {
	return func(m *machine.Machine, l Line) int {
		n, why := op(m.Number(l.R), m.Number(l.S))
		if why == 0 {
			m.Set(l.R, n)
		}
		return why
	}
}

// divide leans on Go's own division: it cuts towards 0, and the least number by -1 is itself.
func divide(a, b int64) (int64, int) {
	if b == 0 {
		return 0, api.Nought
	}
	return a / b, 0
}

// fetch makes the act of a word that sets R to what stands at place S.
func fetch(places int64, at func(m *machine.Machine, place int64) int64) Act {
	return func(m *machine.Machine, l Line) int {
		place := m.Number(l.S)
		if place < 0 || place >= places {
			return api.Place
		}
		m.Set(l.R, at(m, place))
		return 0
	}
}

// store makes the act of a word that puts S at place R.
func store(places int64, put func(m *machine.Machine, place, n int64)) Act {
	return func(m *machine.Machine, l Line) int {
		place := m.Number(l.R)
		if place < 0 || place >= places {
			return api.Place
		}
		put(m, place, m.Number(l.S))
		return 0
	}
}

// hand makes the act of a word that hands R's number out of the registers.
func hand(to func(m *machine.Machine, n int64)) Act {
	return func(m *machine.Machine, l Line) int {
		to(m, m.Number(l.R))
		return 0
	}
}

// jump makes the act of a word that goes to line L.
func jump(gone func(m *machine.Machine, l Line) bool) Act {
	return func(m *machine.Machine, l Line) int {
		if gone(m, l) {
			m.Next = int(l.N)
		}
		return 0
	}
}
