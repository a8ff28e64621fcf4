package ward

import (
	"math"
	"math/rand"
	"runtime"
	"strings"
	"sync"
	"testing"
	"time"

	"ward/api"
)

// scraps are what texts are thrown together from: lines, halves of lines, and what no line has.
var scraps = []string{"set", "mov", "add", "div", "in", "get", "put", "load", "keep", "out", "jmp", "jlt", "jeq", "end", " ", " ", " ", "\n", "\n", "r0", "r1", "r7", "r8", "0", "1", "-1", "-", "9223372036854775807", "9223372036854775808",
	"end r0", "out r0", "jmp 0", "jmp 1", "jlt r0 r0 0", "\x00", "\xff", "é", "\r\n", "\t", "ok", "r0=0..64"}

func scrapText(r *rand.Rand) string {
	var b strings.Builder
	for range r.Intn(20) {
		b.WriteString(scraps[r.Intn(len(scraps))])
	}
	return b.String()
}

// TestEveryCallEnds: at all strings and numbers each call answers, without a panic; beside an error there is nothing.
func TestEveryCallEnds(t *testing.T) {
	r := rand.New(rand.NewSource(1))
	fuels := []int{0, 1, 7, api.MaxFuel, api.MaxFuel + 1, -1, math.MaxInt, math.MinInt}
	texts := []string{"", "\n", strings.Repeat("\n", 1<<16), strings.Repeat(" ", 1<<16), strings.Repeat("end r0\n", 1<<12), strings.Repeat("\xff", api.MaxText)}
	for range 20000 {
		texts = append(texts, scrapText(r))
	}
	for i, text := range texts {
		fuel := fuels[i%len(fuels)]
		e, at := Read(text)
		if e == api.OK && at != 0 {
			t.Errorf("P1: Read(%q) is OK at %d", text, at)
		}
		s, e2, at2 := Run(text, scrapText(r), fuel)
		if e != api.OK && (e2 != e || at2 != at) {
			t.Errorf("P1: Read(%q) = %d, %d, but Run %d, %d", text, e, at, e2, at2)
		}
		if e2 != api.OK && s != (api.State{}) {
			t.Errorf("P1: Run(%q) = %+v beside the error %d", text, s, e2)
		}
		if (e2 == api.OK || e2 == api.ErrConf) && at2 != 0 {
			t.Errorf("P1: Run(%q) = %d at %d", text, e2, at2)
		}
		proof := texts[len(texts)-1-i]
		e3, at3 := Check(text, proof)
		if e != api.OK && (e3 != e || at3 != at) || e3 == api.OK && at3 != 0 {
			t.Errorf("P1: Read(%q) = %d, %d, but Check with %q %d, %d", text, e, at, proof, e3, at3)
		}
		if e3, at3 := Check("jmp 0", text); e3 == api.OK && at3 != 0 {
			t.Errorf("P1: Check with %q is OK at %d", text, at3)
		}
		found, e4, at4 := Prove(text)
		if e != api.OK && (e4 != e || at4 != at) || e4 == api.OK && at4 != 0 {
			t.Errorf("P1: Read(%q) = %d, %d, but Prove %d, %d", text, e, at, e4, at4)
		}
		if (e4 == api.OK) != (found != "") {
			t.Errorf("P1: Prove(%q) = %q beside the error %d", text, found, e4)
		}
		testTrimEnds(t, text, proof)
		testTrimEnds(t, "jmp 0", text)
	}
}

// testTrimEnds: Trim answers what Check does, and a program beside no error alone.
func testTrimEnds(t *testing.T, program, proof string) {
	t.Helper()
	e, at := Check(program, proof)
	s, e2, at2 := Trim(program, proof)
	if e2 != e || at2 != at || (e == api.OK) != (s != "") {
		t.Errorf("P1: Check(%q, %q) = %d, %d, but Trim %q, %d, %d", program, proof, e, at, s, e2, at2)
	}
}

// TestEveryCallOfAHostEnds: the same of a host, on which now and then a program is loaded.
func TestEveryCallOfAHostEnds(t *testing.T) {
	r := rand.New(rand.NewSource(13))
	numbers := []int{0, 1, 2, 3, 10, 11, api.MaxFuel, api.MaxFuel + 1, -1, math.MaxInt, math.MinInt}
	h, loaded := NewHost(), 0
	for i := range 20000 {
		program, proof := scrapText(r), scrapText(r)
		if i%1000 == 0 {
			program, proof = "jmp 0", "ok"
		}
		want := 0
		e, at := Check(program, proof)
		switch {
		case e == api.OK && loaded == api.MaxLoaded:
			e = api.ErrFull
		case e == api.OK:
			loaded++
			want = loaded
		}
		if id, e2, at2 := h.Load(program, proof); id != want || e2 != e || at2 != at {
			t.Fatalf("P1: Load(%q, %q) = %d, %d, %d, want %d, %d, %d", program, proof, id, e2, at2, want, e, at)
		}
		id, fuel := numbers[r.Intn(len(numbers))], numbers[r.Intn(len(numbers))]
		none := id < 1 || id > loaded
		s, e := h.Run(id, program, fuel)
		if none != (e == api.ErrNone) || e != api.OK && s != (api.State{}) {
			t.Fatalf("P1: Run(%d, %q, %d) = %+v, %d, of %d programs", id, program, fuel, s, e, loaded)
		}
		if list, e := h.Cells(id); none != (e == api.ErrNone) || none != (len(list) == 0) {
			t.Fatalf("P1: Cells(%d) = %v, %d, of %d programs", id, list, e, loaded)
		}
	}
	if loaded != api.MaxLoaded {
		t.Errorf("too few programs to tell anything: %d", loaded)
	}
}

// TestLongInputs: an input may have any length.
func TestLongInputs(t *testing.T) {
	long := strings.Repeat("\xfe", 1<<20)
	testRun(t, "set r1 63; in r2 r1; end r2", long, 3, api.State{How: api.Ended, Line: 2, Value: 254, Regs: regs(0, 64, 1, 63, 2, 254)})
}

// TestNoGoroutineGoesOn: calls leave none behind.
func TestNoGoroutineGoesOn(t *testing.T) {
	before := runtime.NumGoroutine()
	for range 50 {
		h := NewHost()
		h.Load("jmp 0", "ok")
		h.Load("end r0", "ok")
		h.Load("end r0", "x")
		h.Run(1, "abc", api.MaxFuel)
		h.Run(2, "abc", api.MaxFuel)
		h.Cells(1)
		Trim("end r0", "ok r0=0..64")
		Trim("end r0", "ok")
		Read("end r0")
		Run("jmp 0", "abc", api.MaxFuel)
		Check("end r0", "ok r0=0..64")
		Check("end r0", "ok")
		Check("end r0", "x")
		Prove("end r0")
		Prove("end r1")
		Prove("add r0 r0\njmp 0")
		Check(strings.Repeat("end r0\n", 99)+"end r0", strings.Repeat("ok\n", 99)+"ok")
	}
	for range 100 { // what the tests themselves began may need a moment to end
		if runtime.NumGoroutine() <= before {
			return
		}
		time.Sleep(time.Millisecond)
	}
	t.Errorf("P1: %d goroutines, %d ahead of the calls", runtime.NumGoroutine(), before)
}

// TestCallsSideBySide: what a call answers hangs on its arguments, whatever goes on beside it.
func TestCallsSideBySide(t *testing.T) {
	program := prog("set r1 1; keep r1 r0; load r2 r1; put r1 r2; get r3 r1; out r3; jlt r1 r3 8; end r1; sub r0 r1; jmp 1")
	want := make([]api.State, 20)
	for i := range want {
		want[i], _, _ = Run(program, strings.Repeat("x", i), api.MaxFuel)
	}
	var wait sync.WaitGroup
	for i := range want {
		wait.Add(1)
		go func() {
			defer wait.Done()
			for range 20 {
				if s, e, at := Run(program, strings.Repeat("x", i), api.MaxFuel); s != want[i] || e != api.OK || at != 0 {
					t.Errorf("P4: side by side: %+v, %d, %d, want %+v", s, e, at, want[i])
				}
			}
		}()
	}
	wait.Wait()
}
