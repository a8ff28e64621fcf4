// Package prover: looks for a proof of a program.
package prover

import (
	"slices"

	"ward/api"
	"ward/claims"
	"ward/words"
)

// search is a proof as far as it was found.
type search struct {
	rows    []words.Word
	lines   []words.Line
	proof   []claims.Claim
	changes []int // in how many earlier rounds each line's claim was changed
}

// Prove answers a claim for each line and -1, or nothing and the first line whose needs are not met. The lines were read in the words of rows.
func Prove(rows []words.Word, lines []words.Line) ([]claims.Claim, int) {
	s := begin(rows, lines)
	// The rounds come to an end: claims only ever say less, every way round has a way back in it, and there what still grows after some rounds is let go for good.
	for s.round() {
	}
	if at := s.unmet(); at >= 0 {
		return nil, at
	}
	return s.proof, -1
}

func begin(rows []words.Word, lines []words.Line) *search {
	proof := make([]claims.Claim, len(lines))
	for at := range proof {
		proof[at] = claims.Never()
	}
	proof[0] = claims.Start()
	return &search{rows, lines, proof, make([]int, len(lines))}
}

// round goes through the lines once, and tells whether a claim was changed.
func (s *search) round() bool {
	changed := make([]bool, len(s.lines))
	for at := range s.lines {
		for _, exit := range s.exits(at) {
			claim := s.joined(at, exit)
			if claim != s.proof[exit.To] {
				s.proof[exit.To], changed[exit.To] = claim, true
			}
		}
	}
	s.count(changed)
	return slices.Contains(changed, true)
}

// count comes behind the round: a change counts from the next round on, and once, however often the claim was changed.
func (s *search) count(changed []bool) {
	for at, is := range changed {
		if is {
			s.changes[at]++
		}
	}
}

// exits are none where no run comes to the line, or it may go wrong.
func (s *search) exits(at int) []words.Exit {
	c, l := s.proof[at], s.lines[at]
	w := s.rows[l.Word]
	if c.Never || !w.IsMet(c, l) {
		return nil
	}
	return w.Exits(at, l, c)
}

// joined is the claim of the line that an exit leads to, with what follows there.
func (s *search) joined(from int, exit words.Exit) claims.Claim {
	was := s.proof[exit.To]
	now := was.Join(exit.Claim)
	isBack := from >= exit.To
	if isBack && s.changes[exit.To] > api.Rounds {
		return now.LetGo(was)
	}
	return now
}

// unmet answers the first line that a run may come to and whose needs are not met, or -1.
func (s *search) unmet() int {
	for at, c := range s.proof {
		l := s.lines[at]
		if !c.Never && !s.rows[l.Word].IsMet(c, l) {
			return at
		}
	}
	return -1
}
