// Package trimmer: makes of a program what its proof says can be gone of it.
package trimmer

import (
	"strconv"
	"strings"

	"ward/claims"
	"ward/words"
)

// Trim answers a program's text, trimmed. The lines were read in the words of rows from that text, and the proof holds for them.
func Trim(rows []words.Word, lines []words.Line, proof []claims.Claim, program string) string {
	texts := strings.Split(program, "\n")
	for at, l := range lines {
		if to, only := onlyWay(rows[l.Word], l, proof[at], at); only {
			texts[at] = "jmp " + strconv.Itoa(to)
		}
	}
	return strings.Join(texts, "\n")
}

// onlyWay answers the line that a jmp may lead to in place of the line at that place, if there is one.
func onlyWay(w words.Word, l words.Line, c claims.Claim, at int) (int, bool) {
	if c.Never {
		return at, true
	}
	// A jmp has one way, too, and becomes itself.
	if !w.Jumps() {
		return 0, false
	}
	exits := w.Exits(at, l, c)
	if len(exits) != 1 {
		return 0, false
	}
	return exits[0].To, true
}
