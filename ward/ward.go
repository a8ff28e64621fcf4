// Package ward: programs with proofs: see DOC.md.
package ward

import (
	"ward/api"
	"ward/checker"
	"ward/claims"
	"ward/machine"
	"ward/prover"
	"ward/reader"
	"ward/runner"
	"ward/trimmer"
	"ward/words"
)

// Read tells whether a text is a program (P3).
func Read(program string) (api.Errno, int) {
	// The table of words that stands for good is made by the first Read; the answer does not hang on it.
	words.Kept()
	_, e, at := reader.Read(words.Rows(), program)
	return e, at
}

// Run runs a program (P4).
func Run(program string, input string, fuel int) (api.State, api.Errno, int) {
	rows := words.Rows()
	lines, e, at := reader.Read(rows, program)
	if e != api.OK {
		return api.State{}, e, at
	}
	if !isFuel(fuel) {
		return api.State{}, api.ErrConf, 0
	}
	return runner.Run(rows, lines, machine.New(input), fuel), api.OK, 0
}

// Check tells whether a proof proves that a program goes wrong nowhere (P5).
func Check(program string, proof string) (api.Errno, int) {
	_, _, e, at := proven(words.Rows(), program, proof)
	return e, at
}

// Prove finds a proof (P6).
func Prove(program string) (string, api.Errno, int) {
	rows := words.Rows()
	lines, e, at := reader.Read(rows, program)
	if e != api.OK {
		return "", e, at
	}
	proof, at := prover.Prove(rows, lines)
	if at >= 0 {
		return "", api.ErrClaim, at
	}
	return claims.Text(proof), api.OK, 0
}

// Trim makes a program shorter to run by its proof (P7).
func Trim(program string, proof string) (string, api.Errno, int) {
	rows := words.Rows()
	lines, list, e, at := proven(rows, program, proof)
	if e != api.OK {
		return "", e, at
	}
	return trimmer.Trim(rows, lines, list, program), api.OK, 0
}

// proven answers the lines of a program and the claims of a proof that holds for them, or the first error with its place.
func proven(rows []words.Word, program, proof string) ([]words.Line, []claims.Claim, api.Errno, int) {
	lines, e, at := reader.Read(rows, program)
	if e != api.OK {
		return nil, nil, e, at
	}
	list, e, at := reader.Proof(proof, len(lines))
	if e != api.OK {
		return nil, nil, e, at
	}
	if at := checker.Check(rows, lines, list); at >= 0 {
		return nil, nil, api.ErrClaim, at
	}
	return lines, list, api.OK, 0
}

func isFuel(fuel int) bool { return fuel >= 0 && fuel <= api.MaxFuel }
