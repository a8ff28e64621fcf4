package claims

import (
	"strconv"
	"strings"
)

// Text is a proof made of these claims.
func Text(list []Claim) string {
	lines := make([]string, 0, len(list))
	for _, c := range list {
		lines = append(lines, c.text())
	}
	return strings.Join(lines, "\n")
}

func (c Claim) text() string {
	if c.Never {
		return "-"
	}
	parts := []string{"ok"}
	for r, has := range c.has {
		if has {
			parts = append(parts, "r"+strconv.Itoa(r)+"="+c.spans[r].text())
		}
	}
	return strings.Join(parts, " ")
}

func (s Span) text() string {
	return strconv.FormatInt(s.Low, 10) + ".." + strconv.FormatInt(s.High, 10)
}
