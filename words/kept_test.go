package words_test

import (
	"strings"
	"sync"
	"testing"

	"ward/ward"
	"ward/words"
)

// firstAtStart is looked at ahead of any use of the table.
var firstAtStart = words.First()

// TestTable has its parts in this order: there is one table for all of them.
func TestTable(t *testing.T) {
	words.Forget()
	t.Run("not ahead of its first use", testNotAhead)
	t.Run("made once", testMadeOnce)
	t.Run("its rows", testItsRows)
	t.Run("no answer hangs on it", testNoAnswerHangsOnIt)
}

func testNotAhead(t *testing.T) {
	words.Rows()
	for _, text := range []string{"", "end", "end r0", "set r1 1\nend r1"} {
		ward.Run(text, "abc", 9)
		ward.Check(text, "ok r0=0..64")
		ward.Prove(text)
		ward.Trim(text, "ok r0=0..64")
		h := ward.NewHost()
		h.Load(text, "ok r0=0..64")
		h.Run(1, "abc", 9)
		h.Cells(1)
	}
	if firstAtStart != nil || words.First() != nil {
		t.Error("there is a table ahead of its first use")
	}
}

// testMadeOnce: a Read uses the table, and it is made by the first use alone, however many there are at a time.
func testMadeOnce(t *testing.T) {
	var wait sync.WaitGroup
	firsts := make([]*words.Word, 16)
	for i := range firsts {
		wait.Add(1)
		go func() {
			defer wait.Done()
			ward.Read("end r0")
			firsts[i] = words.First()
		}()
	}
	wait.Wait()
	for _, first := range firsts {
		if first == nil || first != firsts[0] {
			t.Error("a Read does not make the table, or makes it again")
		}
	}
}

// testItsRows: what stands in the table is what the calls work with.
func testItsRows(t *testing.T) {
	rows := words.Rows()
	if words.Kept() != len(rows) || len(words.Table()) != len(rows) {
		t.Fatalf("%d rows are kept, of %d", words.Kept(), len(rows))
	}
	for i, w := range words.Table() {
		if w.Name != rows[i].Name || w.Parts != rows[i].Parts || w.Takes != rows[i].Takes || w.Falls != rows[i].Falls || w.Do == nil || w.Needs == nil || w.Next == nil || w.Jump == nil {
			t.Errorf("row %d of the table is %+v, want that of %s", i, w, rows[i].Name)
		}
	}
}

// testNoAnswerHangsOnIt: a table that is spoiled changes no answer.
func testNoAnswerHangsOnIt(t *testing.T) {
	program := "set r1 2\nadd r1 r0\nout r1\nend r1"
	kept := append([]words.Word(nil), words.Table()...)
	defer copy(words.Table(), kept)
	clear(words.Table())
	if e, at := ward.Read(program); e != 0 || at != 0 {
		t.Errorf("Read(%q) = %d, %d", program, e, at)
	}
	if s, e, at := ward.Run(program, strings.Repeat("x", 3), 9); s.Value != 5 || s.Out != "5" || e != 0 || at != 0 {
		t.Errorf("Run(%q) = %+v, %d, %d", program, s, e, at)
	}
	proof := "ok r0=0..64\nok r0=0..64 r1=2..2\nok r1=2..66\nok r1=2..66"
	if e, at := ward.Check(program, proof); e != 0 || at != 0 {
		t.Errorf("Check(%q, %q) = %d, %d", program, proof, e, at)
	}
	proof = "ok r0=0..64\nok r0=0..64 r1=2..2\nok r0=0..64 r1=2..66\nok r0=0..64 r1=2..66"
	if found, e, at := ward.Prove(program); found != proof || e != 0 || at != 0 {
		t.Errorf("Prove(%q) = %q, %d, %d", program, found, e, at)
	}
	if s, e, at := ward.Trim("jeq r0 r0 1\nend r0", "ok r0=0..64\nok r0=0..64"); s != "jmp 1\nend r0" || e != 0 || at != 0 {
		t.Errorf("Trim = %q, %d, %d", s, e, at)
	}
	h := ward.NewHost()
	if id, e, at := h.Load(program, proof); id != 1 || e != 0 || at != 0 {
		t.Errorf("Load(%q, %q) = %d, %d, %d", program, proof, id, e, at)
	}
	if s, e := h.Run(1, "xxx", 9); s.Value != 5 || s.Out != "5" || e != 0 {
		t.Errorf("Run(1) = %+v, %d", s, e)
	}
	if list, e := h.Cells(1); len(list) != 8 || e != 0 {
		t.Errorf("Cells(1) = %v, %d", list, e)
	}
}
