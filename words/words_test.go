package words

import (
	"sync"
	"testing"
)

// rowsAtStart is counted ahead of any use of the table.
var rowsAtStart = len(table)

// TestTableIsMadeOnce: at the first use, and only then, however many use it at a time.
func TestTableIsMadeOnce(t *testing.T) {
	if rowsAtStart != 0 {
		t.Errorf("the table has %d rows ahead of its first use", rowsAtStart)
	}
	firsts := make([]*Word, 16)
	var wait sync.WaitGroup
	for i := range firsts {
		wait.Add(1)
		go func() {
			defer wait.Done()
			firsts[i] = &rows()[0]
		}()
	}
	wait.Wait()
	for _, first := range firsts {
		if first != &table[0] {
			t.Error("the table was made more than once")
		}
	}
}

func TestFind(t *testing.T) {
	names := []string{"set", "mov", "add", "sub", "mul", "and", "div", "in", "get", "put", "load", "keep", "out", "jmp", "jlt", "jeq", "end"}
	for _, name := range names {
		row, ok := Find(name)
		if !ok || At(row).Name != name || At(row).Do == nil {
			t.Errorf("no row for %q", name)
		}
	}
	if len(rows()) != len(names) {
		t.Errorf("%d rows, want %d", len(rows()), len(names))
	}
	for _, name := range []string{"", "Set", "nop", "set ", "en"} {
		if _, ok := Find(name); ok {
			t.Errorf("a row for %q", name)
		}
	}
}

// TestRowsFit: a word takes no register that it does not name.
func TestRowsFit(t *testing.T) {
	for _, w := range rows() {
		hasR, hasS := w.Parts[0] == 'R', len(w.Parts) > 1 && w.Parts[1] == 'S'
		if w.TakesR() && !hasR || w.TakesS() && !hasS {
			t.Errorf("%s takes %q of %q", w.Name, w.Takes, w.Parts)
		}
		if w.Falls == (w.Name == "jmp" || w.Name == "end") {
			t.Errorf("%s falls: %t", w.Name, w.Falls)
		}
	}
}
