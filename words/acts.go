package words

import (
	"ward/api"
	"ward/machine"
)

// become makes the act of a word that sets R and can't go wrong.
func become(number func(m *machine.Machine, l Line) int64) Act {
	return func(m *machine.Machine, l Line) int {
		m.Set(l.R, number(m, l))
		return 0
	}
}

// reckon makes the act of a word that sets R to what comes of R and S. The operations lean on int64, which wraps round as the registers must.
func reckon(op func(a, b int64) (int64, int)) Act {
	return func(m *machine.Machine, l Line) int {
		n, why := op(m.Number(l.R), m.Number(l.S))
		if why == 0 {
			m.Set(l.R, n)
		}
		return why
	}
}

// divide leans on Go's own division: it cuts towards 0, and the least number by -1 is itself.
func divide(a, b int64) (int64, int) {
	if b == 0 {
		return 0, api.Nought
	}
	return a / b, 0
}

// fetch makes the act of a word that sets R to what stands at place S.
func fetch(places int64, at func(m *machine.Machine, place int64) int64) Act {
	return func(m *machine.Machine, l Line) int {
		place := m.Number(l.S)
		if place < 0 || place >= places {
			return api.Place
		}
		m.Set(l.R, at(m, place))
		return 0
	}
}

// store makes the act of a word that puts S at place R.
func store(places int64, put func(m *machine.Machine, place, n int64)) Act {
	return func(m *machine.Machine, l Line) int {
		place := m.Number(l.R)
		if place < 0 || place >= places {
			return api.Place
		}
		put(m, place, m.Number(l.S))
		return 0
	}
}

// hand makes the act of a word that hands R's number out of the registers.
func hand(to func(m *machine.Machine, n int64)) Act {
	return func(m *machine.Machine, l Line) int {
		to(m, m.Number(l.R))
		return 0
	}
}

// jump makes the act of a word that goes to line L.
func jump(gone func(m *machine.Machine, l Line) bool) Act {
	return func(m *machine.Machine, l Line) int {
		if gone(m, l) {
			m.Next = int(l.N)
		}
		return 0
	}
}
