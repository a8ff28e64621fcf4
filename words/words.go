// Package words: the words of a program, and what each of them does.
package words

import (
	"strings"

	"ward/claims"
	"ward/machine"
)

// Line is a line of a program.
type Line struct {
	Word int   // its word's row in the table
	R, S int   // registers
	N    int64 // what a set sets, or the line L
}

// Act is what a word does to a machine. It answers why it goes wrong (else 0), and has changed nothing then. The registers that the word takes are set when it is called.
type Act func(m *machine.Machine, l Line) int

// Need tells whether by a claim a word can't go wrong. The registers that the word takes are in the claim when it is called.
type Need func(c claims.Claim, l Line) bool

// Way is what follows from a claim on a way out of a line: never, if that way is not gone. The word's needs are met when it is called.
type Way func(c claims.Claim, l Line) claims.Claim

// Word is a row of the table.
type Word struct {
	Name  string
	Parts string // what stands behind the name: R, S (registers), n (a number), L (a line)
	Takes string // which of R and S must be set
	Falls bool   // whether the next line may be next
	Do    Act    // to numbers
	Needs Need   // of a claim, beside the registers that it takes
	Next  Way    // to claims, on the way to the next line
	Jump  Way    // and on the way to L
}

// Find tells the row of the word of that name.
func Find(rows []Word, name string) (int, bool) {
	for i, w := range rows {
		if w.Name == name {
			return i, true
		}
	}
	return 0, false
}

// Jumps tells whether a word names a line.
func (w Word) Jumps() bool { return strings.Contains(w.Parts, "L") }

// TakesR tells whether R must be set.
func (w Word) TakesR() bool { return strings.Contains(w.Takes, "R") }

// TakesS tells whether S must be set.
func (w Word) TakesS() bool { return strings.Contains(w.Takes, "S") }

// IsMet tells whether a claim meets all needs of a line.
func (w Word) IsMet(c claims.Claim, l Line) bool {
	if w.TakesR() && !c.Has(l.R) || w.TakesS() && !c.Has(l.S) {
		return false
	}
	return w.Needs(c, l)
}

// Exit is a way out of a line that is gone: to which line, and what follows there.
type Exit struct {
	To    int
	Claim claims.Claim
}

// Exits are the ways that are gone out of the line at that place, whose needs its claim meets: first that to the next line, then that to L.
func (w Word) Exits(at int, l Line, c claims.Claim) []Exit {
	var out []Exit
	if next := w.Next(c, l); !next.Never {
		out = append(out, Exit{at + 1, next})
	}
	if jump := w.Jump(c, l); !jump.Never {
		out = append(out, Exit{int(l.N), jump})
	}
	return out
}
