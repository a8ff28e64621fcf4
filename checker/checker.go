// Package checker: sees whether the claims of a proof hold.
package checker

import (
	"slices"
	"sync"

	"ward/claims"
	"ward/words"
)

// workers is how many lines are looked at side by side.
const workers = 4

// Check answers the first line that fails, or -1. There is a claim for each line, and the lines were read in the words of rows.
func Check(rows []words.Word, lines []words.Line, proof []claims.Claim) int {
	// Each line has its own place for what was found, so that the schedule is not to be seen.
	failed := make([]bool, len(lines))
	numbers := make(chan int)
	var wait sync.WaitGroup
	for range workers {
		wait.Add(1)
		go func() {
			defer wait.Done()
			for at := range numbers {
				failed[at] = fails(rows, lines, proof, at)
			}
		}()
	}
	for at := range lines {
		numbers <- at
	}
	close(numbers)
	wait.Wait()
	return slices.Index(failed, true)
}

func fails(rows []words.Word, lines []words.Line, proof []claims.Claim, at int) bool {
	c, l := proof[at], lines[at]
	if at == 0 && !c.Follows(claims.Start()) {
		return true
	}
	if c.Never {
		return false
	}
	w := rows[l.Word]
	if !w.IsMet(c, l) {
		return true
	}
	for _, exit := range w.Exits(at, l, c) {
		if !proof[exit.To].Follows(exit.Claim) {
			return true
		}
	}
	return false
}
