package ward

import (
	"slices"

	"ward/api"
	"ward/machine"
	"ward/runner"
	"ward/words"
)

// Host runs proven programs, and keeps cells for each.
type Host struct {
	programs []loaded // that with the number 1 first
}

// loaded is a program that was proven, with the cells that are kept for it.
type loaded struct {
	lines []words.Line
	kept  [api.Kept]int64
}

// NewHost makes a host (P8).
func NewHost() *Host { return &Host{} }

// Load takes a program with its proof (P8).
func (h *Host) Load(program string, proof string) (int, api.Errno, int) {
	lines, _, e, at := proven(words.Rows(), program, proof)
	if e != api.OK {
		return 0, e, at
	}
	if len(h.programs) == api.MaxLoaded {
		return 0, api.ErrFull, 0
	}
	h.programs = append(h.programs, loaded{lines: lines})
	return len(h.programs), api.OK, 0
}

// Run runs one (P8).
func (h *Host) Run(id int, input string, fuel int) (api.State, api.Errno) {
	if !h.has(id) {
		return api.State{}, api.ErrNone
	}
	if !isFuel(fuel) {
		return api.State{}, api.ErrConf
	}
	return h.programs[id-1].run(input, fuel), api.OK
}

// Cells tells what is kept for one (P8).
func (h *Host) Cells(id int) ([]int64, api.Errno) {
	if !h.has(id) {
		return nil, api.ErrNone
	}
	return slices.Clone(h.programs[id-1].kept[:]), api.OK
}

func (h *Host) has(id int) bool { return id >= 1 && id <= len(h.programs) }

func (p *loaded) run(input string, fuel int) api.State {
	m := machine.New(input)
	m.Kept = p.kept
	// Whichever way the run ends, the next one begins with the cells as this one left them.
	defer func() { p.kept = m.Kept }()
	return runner.Run(words.Rows(), p.lines, m, fuel)
}
