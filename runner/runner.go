// Package runner: runs of programs.
package runner

import (
	"ward/api"
	"ward/machine"
	"ward/words"
)

// Run runs lines that were read in the words of rows without an error, on a machine that stands ahead of line 0.
func Run(rows []words.Word, lines []words.Line, m *machine.Machine, fuel int) (state api.State) {
	// Whichever way the run ends, the state is that of the machine then.
	defer func() { state = m.State() }()
	for range fuel {
		l := lines[m.Line]
		step(m, rows[l.Word], l)
		if m.How != api.Stopped {
			return
		}
		m.Line = m.Next
	}
	return
}

func step(m *machine.Machine, w words.Word, l words.Line) {
	m.Next = m.Line + 1
	if why := do(m, w, l); why != 0 {
		m.Fail(why)
	}
}

func do(m *machine.Machine, w words.Word, l words.Line) int {
	if w.TakesR() && !m.IsSet(l.R) || w.TakesS() && !m.IsSet(l.S) {
		return api.Unset
	}
	return w.Do(m, l)
}
