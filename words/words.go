// Package words: the words of a program, and what each of them does.
package words

import (
	"strings"
	"sync"

	"ward/machine"
)

// Line is a line of a program.
type Line struct {
	Word int   // its word's row in the table
	R, S int   // registers
	N    int64 // what a set sets, or the line L
}

// Act is what a word does to a machine. It answers why it goes wrong (else 0), and has changed nothing then. The registers that the word takes are set when it is called.
type Act func(m *machine.Machine, l Line) int

// Word is a row of the table.
type Word struct {
	Name  string
	Parts string // what stands behind the name: R, S (registers), n (a number), L (a line)
	Takes string // which of R and S must be set
	Falls bool   // whether the next line may be next
	Do    Act
}

// once guards table, which is made at the first use, and only then.
var (
	once  sync.Once
	table []Word
)

func rows() []Word {
	once.Do(func() { table = makeTable() })
	return table
}

// Find tells the row of the word of that name.
func Find(name string) (int, bool) {
	for i, w := range rows() {
		if w.Name == name {
			return i, true
		}
	}
	return 0, false
}

// At is the word in that row.
func At(row int) Word { return rows()[row] }

// Jumps tells whether a word names a line.
func (w Word) Jumps() bool { return strings.Contains(w.Parts, "L") }

// TakesR tells whether R must be set.
func (w Word) TakesR() bool { return strings.Contains(w.Takes, "R") }

// TakesS tells whether S must be set.
func (w Word) TakesS() bool { return strings.Contains(w.Takes, "S") }
