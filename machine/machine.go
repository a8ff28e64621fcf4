// Package machine: what a run works on: registers, input and cells, and how the run is.
package machine

import (
	"strconv"

	"ward/api"
)

// Machine is as a run left it so far. How is Stopped as long as the run goes on, so that it is right when the fuel runs out.
type Machine struct {
	Line, Next int // the line that is at work, and the one behind it
	How, Why   int
	Value      int64
	Input      [api.Input]byte
	Cells      [api.Cells]int64
	Kept       [api.Kept]int64
	regs       [api.Registers]api.Register
	out        []byte
}

// New makes a machine that stands ahead of line 0.
func New(input string) *Machine {
	m := &Machine{}
	handed := copy(m.Input[:], input)
	m.Set(0, int64(handed))
	return m
}

// IsSet tells whether a register has a number.
func (m *Machine) IsSet(r int) bool { return m.regs[r].Set }

// Number is a register's number.
func (m *Machine) Number(r int) int64 { return m.regs[r].N }

// Set gives a register its number.
func (m *Machine) Set(r int, n int64) {
	m.regs[r] = api.Register{Set: true, N: n}
}

// PutOut puts a number out.
func (m *Machine) PutOut(n int64) {
	if len(m.out) > 0 {
		m.out = append(m.out, ' ')
	}
	m.out = strconv.AppendInt(m.out, n, 10)
}

// End ends the run with a number.
func (m *Machine) End(n int64) {
	m.How, m.Value = api.Ended, n
}

// Fail ends the run because a line goes wrong.
func (m *Machine) Fail(why int) {
	m.How, m.Why = api.Fault, why
}

// State tells how the run is; it shares nothing with the machine.
func (m *Machine) State() api.State {
	return api.State{
		How:   m.How,
		Line:  m.Line,
		Why:   m.Why,
		Value: m.Value,
		Regs:  m.regs,
		Out:   string(m.out),
	}
}
