// Package reader: texts into the lines of a program.
package reader

import (
	"strconv"
	"strings"

	"ward/api"
	"ward/words"
)

// Read answers the lines of a program in the words of rows, or the first error with its place.
func Read(rows []words.Word, program string) ([]words.Line, api.Errno, int) {
	if isLong(program) {
		return nil, api.ErrLong, 0
	}
	lines, bad := parse(rows, strings.Split(program, "\n"))
	if bad >= 0 {
		return nil, api.ErrForm, bad
	}
	if bad := lostJump(rows, lines); bad >= 0 {
		return nil, api.ErrLine, bad
	}
	last := len(lines) - 1
	if rows[lines[last].Word].Falls {
		return nil, api.ErrEnd, last
	}
	return lines, api.OK, 0
}

// isLong counts line feeds ahead of any splitting, so that no text of strangers, however long, is taken to pieces.
func isLong(program string) bool {
	return len(program) > api.MaxText || strings.Count(program, "\n") >= api.MaxLines
}

// parse answers the first text that is no line too, or -1.
func parse(rows []words.Word, texts []string) ([]words.Line, int) {
	lines := make([]words.Line, 0, len(texts))
	for i, text := range texts {
		l, ok := parseLine(rows, text)
		if !ok {
			return nil, i
		}
		lines = append(lines, l)
	}
	return lines, -1
}

// lostJump answers the first line whose L is no line of the program, or -1.
func lostJump(rows []words.Word, lines []words.Line) int {
	for i, l := range lines {
		if rows[l.Word].Jumps() && l.N >= int64(len(lines)) {
			return i
		}
	}
	return -1
}

func parseLine(rows []words.Word, text string) (words.Line, bool) {
	parts := strings.Split(text, " ")
	row, ok := words.Find(rows, parts[0])
	if !ok {
		return words.Line{}, false
	}
	kinds := rows[row].Parts
	if len(parts) != 1+len(kinds) {
		return words.Line{}, false
	}
	l := words.Line{Word: row}
	for i, part := range parts[1:] {
		if !parsePart(&l, kinds[i], part) {
			return words.Line{}, false
		}
	}
	return l, true
}

func parsePart(l *words.Line, kind byte, text string) bool {
	var ok bool
	switch kind {
	case 'R':
		l.R, ok = parseRegister(text)
	case 'S':
		l.S, ok = parseRegister(text)
	case 'n':
		l.N, ok = parseNumber(text)
		ok = ok && l.N >= -api.MaxNumber && l.N <= api.MaxNumber
	case 'L':
		l.N, ok = parseNumber(text)
		ok = ok && l.N >= 0
	}
	return ok
}

func parseRegister(text string) (int, bool) {
	if len(text) != 2 || text[0] != 'r' || text[1] < '0' || text[1] >= '0'+api.Registers {
		return 0, false
	}
	return int(text[1] - '0'), true
}

// parseNumber looks at the form itself: the library takes more than the document does (a plus, noughts ahead, -0).
func parseNumber(text string) (int64, bool) {
	digits := strings.TrimPrefix(text, "-")
	if digits == "" || text != "0" && digits[0] == '0' {
		return 0, false
	}
	for i := range len(digits) {
		if digits[i] < '0' || digits[i] > '9' {
			return 0, false
		}
	}
	n, err := strconv.ParseInt(text, 10, 64)
	return n, err == nil
}
