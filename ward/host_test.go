package ward

import (
	"math"
	"slices"
	"strconv"
	"strings"
	"sync"
	"testing"

	"ward/api"
	"ward/reader"
	"ward/words"
)

const (
	keeping  = "set r1 1; keep r1 r1; end r1"
	adding   = "set r1 3; load r2 r1; add r2 r0; keep r1 r2; out r2; end r2"
	addProof = "ok r0=0..64; ok r0=0..64 r1=3..3; ok r0=0..64 r1=3..3 r2=" + all + "; ok r1=3..3 r2=" + all + "; ok r2=" + all + "; ok r2=" + all
)

// testLoad loads a program with the proof that Prove finds.
func testLoad(t *testing.T, h *Host, program string, want int) {
	t.Helper()
	proof, e, at := Prove(prog(program))
	if e != api.OK {
		t.Fatalf("P6: Prove(%q) = %d, %d", program, e, at)
	}
	if id, e, at := h.Load(prog(program), proof); id != want || e != api.OK || at != 0 {
		t.Fatalf("P8: Load(%q) = %d, %d, %d, want %d", program, id, e, at, want)
	}
}

func testNoLoad(t *testing.T, h *Host, program, proof string, want api.Errno, to int) {
	t.Helper()
	if id, e, at := h.Load(prog(program), prog(proof)); id != 0 || e != want || at != to {
		t.Errorf("P8: Load(%.200q, %.200q) = %d, %d, %d, want %d, %d", program, proof, id, e, at, want, to)
	}
}

func testHostRun(t *testing.T, h *Host, id int, input string, fuel int, want api.State) {
	t.Helper()
	if s, e := h.Run(id, input, fuel); s != want || e != api.OK {
		t.Errorf("P8: Run(%d, %.20q, %d) = %+v, %d, want %+v", id, input, fuel, s, e, want)
	}
}

func testCells(t *testing.T, h *Host, id int, want ...int64) {
	t.Helper()
	if list, e := h.Cells(id); !slices.Equal(list, want) || len(list) != api.Kept || e != api.OK {
		t.Errorf("P8: Cells(%d) = %v, %d, want %v", id, list, e, want)
	}
}

// testNone: there is no program of that number, whatever the fuel is.
func testNone(t *testing.T, h *Host, id int) {
	t.Helper()
	for _, fuel := range []int{0, 1, api.MaxFuel, -1, api.MaxFuel + 1, math.MaxInt, math.MinInt} {
		if s, e := h.Run(id, "abc", fuel); s != (api.State{}) || e != api.ErrNone {
			t.Errorf("P8: Run(%d) with the fuel %d = %+v, %d", id, fuel, s, e)
		}
	}
	if list, e := h.Cells(id); len(list) != 0 || e != api.ErrNone {
		t.Errorf("P8: Cells(%d) = %v, %d", id, list, e)
	}
}

func TestHostExample(t *testing.T) {
	h := NewHost()
	testLoad(t, h, keeping, 1)
	testCells(t, h, 1, 0, 0, 0, 0, 0, 0, 0, 0)
	testHostRun(t, h, 1, "", 9, api.State{How: api.Ended, Line: 2, Value: 1, Regs: regs(0, 0, 1, 1)})
	testCells(t, h, 1, 0, 1, 0, 0, 0, 0, 0, 0)
}

// TestHostLoadsWithAnyProofThatHolds: not with the one that Prove finds alone.
func TestHostLoadsWithAnyProofThatHolds(t *testing.T) {
	h := NewHost()
	for i, c := range []struct{ program, proof string }{
		{adding, addProof}, {"jeq r0 r0 2; end r7; end r0", "ok r0=0..64; -; ok r0=0..100"}, {"jmp 0", "ok"}, {"jmp 0", "ok r0=" + all},
	} {
		if id, e, at := h.Load(prog(c.program), prog(c.proof)); id != i+1 || e != api.OK || at != 0 {
			t.Errorf("P8: Load(%q, %q) = %d, %d, %d, want %d", c.program, c.proof, id, e, at, i+1)
		}
	}
}

// TestHostKeeps: from run to run, whether the run ahead ended or ran out of fuel, ahead of its keep or behind it.
func TestHostKeeps(t *testing.T) {
	h := NewHost()
	testLoad(t, h, adding, 1)
	ended := func(bytes, sum int64) api.State {
		return api.State{How: api.Ended, Line: 5, Value: sum, Regs: regs(0, bytes, 1, 3, 2, sum), Out: strconv.FormatInt(sum, 10)}
	}
	testHostRun(t, h, 1, "ab", 6, ended(2, 2))
	testHostRun(t, h, 1, "abc", api.MaxFuel, ended(3, 5))
	testCells(t, h, 1, 0, 0, 0, 5, 0, 0, 0, 0)
	testHostRun(t, h, 1, "abc", 0, api.State{Regs: regs(0, 3)})
	testHostRun(t, h, 1, "abc", 2, api.State{Line: 2, Regs: regs(0, 3, 1, 3, 2, 5)})
	testHostRun(t, h, 1, "abc", 3, api.State{Line: 3, Regs: regs(0, 3, 1, 3, 2, 8)})
	testCells(t, h, 1, 0, 0, 0, 5, 0, 0, 0, 0)
	testHostRun(t, h, 1, "abc", 4, api.State{Line: 4, Regs: regs(0, 3, 1, 3, 2, 8)})
	testCells(t, h, 1, 0, 0, 0, 8, 0, 0, 0, 0)
	testHostRun(t, h, 1, "abc", 5, api.State{Line: 5, Regs: regs(0, 3, 1, 3, 2, 11), Out: "11"})
	testCells(t, h, 1, 0, 0, 0, 11, 0, 0, 0, 0)
	testHostRun(t, h, 1, "", 6, ended(0, 11))
	testHostRun(t, h, 1, strings.Repeat("x", 99), 6, ended(64, 75))
	testCells(t, h, 1, 0, 0, 0, 75, 0, 0, 0, 0)
}

// TestHostKeepsAllCells: each of the 8, apart from the others, with numbers of all 64 bits.
func TestHostKeepsAllCells(t *testing.T) {
	h := NewHost()
	ends := []int64{math.MinInt64, math.MaxInt64, -1, 0, 1, 1 << 40, -1 << 40, 7}
	program := ""
	for place, n := range ends {
		program += number("r1", "r3", n) + "; set r2 " + strconv.Itoa(place) + "; keep r2 r1; "
	}
	testLoad(t, h, program+"end r0", 1)
	want := make([]int64, api.Kept)
	for place, n := range ends {
		testHostRun(t, h, 1, "", 11*place, stateOf(t, program+"end r0", 11*place))
		testCells(t, h, 1, want...)
		want[place] = n
		testHostRun(t, h, 1, "", 11*place+11, stateOf(t, program+"end r0", 11*place+11))
		testCells(t, h, 1, want...)
	}
	program = ""
	for place := range ends {
		program += "set r2 " + strconv.Itoa(place) + "; load r1 r2; out r1; "
	}
	testLoad(t, h, program+"end r0", 2)
	testHostRun(t, h, 2, "", 99, stateOf(t, program+"end r0", 99))
	testCells(t, h, 1, ends...)
	testCells(t, h, 2, make([]int64, api.Kept)...)
}

// stateOf is how a run without a host is.
func stateOf(t *testing.T, program string, fuel int) api.State {
	t.Helper()
	s, e, at := Run(prog(program), "", fuel)
	if e != api.OK {
		t.Fatalf("P4: Run(%q) = %d, %d", program, e, at)
	}
	return s
}

// TestHostKeepsBehindAFault: no program that was proven goes wrong; one that were to would leave what it kept.
func TestHostKeepsBehindAFault(t *testing.T) {
	lines, e, _ := reader.Read(words.Rows(), prog("set r1 2; load r2 r1; add r2 r0; keep r1 r2; set r3 0; div r2 r3; keep r3 r1; end r1"))
	if e != api.OK {
		t.Fatal(e)
	}
	h := NewHost()
	h.programs = append(h.programs, loaded{lines: lines})
	testHostRun(t, h, 1, "abc", 9, api.State{How: api.Fault, Line: 5, Why: api.Nought, Regs: regs(0, 3, 1, 2, 2, 3, 3, 0)})
	testCells(t, h, 1, 0, 0, 3, 0, 0, 0, 0, 0)
	testHostRun(t, h, 1, "abc", 6, api.State{How: api.Fault, Line: 5, Why: api.Nought, Regs: regs(0, 3, 1, 2, 2, 6, 3, 0)})
	testCells(t, h, 1, 0, 0, 6, 0, 0, 0, 0, 0)
}

// TestHostBeginsAnew: all but the cells that are kept.
func TestHostBeginsAnew(t *testing.T) {
	h := NewHost()
	testLoad(t, h, "set r1 3; get r2 r1; in r3 r1; put r1 r1; out r3; end r2", 1)
	testHostRun(t, h, 1, "abcd", 9, api.State{How: api.Ended, Line: 5, Regs: regs(0, 4, 1, 3, 2, 0, 3, 'd'), Out: "100"})
	testHostRun(t, h, 1, "ab", 4, api.State{Line: 4, Regs: regs(0, 2, 1, 3, 2, 0, 3, 0)})
	testHostRun(t, h, 1, "a", 1, api.State{Line: 1, Regs: regs(0, 1, 1, 3)})
	testHostRun(t, h, 1, "", 9, api.State{How: api.Ended, Line: 5, Regs: regs(0, 0, 1, 3, 2, 0, 3, 0), Out: "0"})
	testCells(t, h, 1, 0, 0, 0, 0, 0, 0, 0, 0)
}

// TestHostKeepsForEachProgram: several programs on one host, the same text twice among them.
func TestHostKeepsForEachProgram(t *testing.T) {
	h := NewHost()
	testLoad(t, h, adding, 1)
	testHostRun(t, h, 1, "ab", 0, api.State{Regs: regs(0, 2)})
	testLoad(t, h, keeping, 2)
	testLoad(t, h, adding, 3)
	for range 3 {
		h.Run(1, "ab", 9)
		h.Run(3, "abcde", 9)
	}
	testCells(t, h, 2, 0, 0, 0, 0, 0, 0, 0, 0)
	h.Run(2, "", 9)
	testCells(t, h, 1, 0, 0, 0, 6, 0, 0, 0, 0)
	testCells(t, h, 2, 0, 1, 0, 0, 0, 0, 0, 0)
	testCells(t, h, 3, 0, 0, 0, 15, 0, 0, 0, 0)
	// A further one changes nothing of those that are there.
	testLoad(t, h, adding, 4)
	testCells(t, h, 4, 0, 0, 0, 0, 0, 0, 0, 0)
	testCells(t, h, 1, 0, 0, 0, 6, 0, 0, 0, 0)
	testHostRun(t, h, 3, "", 9, api.State{How: api.Ended, Line: 5, Value: 15, Regs: regs(0, 0, 1, 3, 2, 15), Out: "15"})
	// What is kept on a host is not to be seen without it, nor does a run without it keep anything there.
	testRun(t, adding, "a", 9, api.State{How: api.Ended, Line: 5, Value: 1, Regs: regs(0, 1, 1, 3, 2, 1), Out: "1"})
	testCells(t, h, 1, 0, 0, 0, 6, 0, 0, 0, 0)
}

// TestHostsAreApart: what is done with one is not to be seen on another one.
func TestHostsAreApart(t *testing.T) {
	g, h := NewHost(), NewHost()
	testLoad(t, g, adding, 1)
	testNone(t, h, 1)
	testLoad(t, h, adding, 1)
	testLoad(t, g, keeping, 2)
	g.Run(1, "ab", 9)
	g.Run(2, "", 9)
	h.Run(1, "abc", 9)
	testCells(t, g, 1, 0, 0, 0, 2, 0, 0, 0, 0)
	testCells(t, h, 1, 0, 0, 0, 3, 0, 0, 0, 0)
	testNone(t, h, 2)
}

// TestHostsSideBySide: a host a goroutine.
func TestHostsSideBySide(t *testing.T) {
	var wait sync.WaitGroup
	for i := range 16 {
		wait.Add(1)
		go func() {
			defer wait.Done()
			h := NewHost()
			for id := range api.MaxLoaded {
				if got, e, at := h.Load(prog(adding), prog(addProof)); got != id+1 || e != api.OK || at != 0 {
					t.Errorf("P8: Load = %d, %d, %d, want %d", got, e, at, id+1)
				}
			}
			for k := range int64(50) {
				id := 1 + int(k)%api.MaxLoaded
				sum := (k/api.MaxLoaded + 1) * int64(i)
				testHostRun(t, h, id, strings.Repeat("x", i), 9, api.State{How: api.Ended, Line: 5, Value: sum, Regs: regs(0, int64(i), 1, 3, 2, sum), Out: strconv.FormatInt(sum, 10)})
				testCells(t, h, id, 0, 0, 0, sum, 0, 0, 0, 0)
			}
		}()
	}
	wait.Wait()
}

// TestHostIsFull: with 10 programs; what Check refuses is told ahead of that.
func TestHostIsFull(t *testing.T) {
	h := NewHost()
	for i := range api.MaxLoaded {
		testNone(t, h, i+1)
		testLoad(t, h, adding, i+1)
		h.Run(i+1, strings.Repeat("x", i), 9)
	}
	for range 3 {
		testNoLoad(t, h, adding, addProof, api.ErrFull, 0)
		testNoLoad(t, h, "end r0", "ok r0=0..64", api.ErrFull, 0)
		for _, c := range errorsOfCheck {
			testNoLoad(t, h, c.program, c.proof, c.e, c.at)
		}
	}
	for i := range api.MaxLoaded {
		testCells(t, h, i+1, 0, 0, 0, int64(i), 0, 0, 0, 0)
	}
	testNone(t, h, api.MaxLoaded+1)
	sum := int64(api.MaxLoaded)
	testHostRun(t, h, api.MaxLoaded, "x", 9, api.State{How: api.Ended, Line: 5, Value: sum, Regs: regs(0, 1, 1, 3, 2, sum), Out: "10"})
}

// TestHostTellsTheErrorsOfCheck: and what was refused is not there, and takes no number.
func TestHostTellsTheErrorsOfCheck(t *testing.T) {
	h := NewHost()
	for _, c := range errorsOfCheck {
		testNoLoad(t, h, c.program, c.proof, c.e, c.at)
		testNone(t, h, 1)
	}
	testLoad(t, h, adding, 1)
	h.Run(1, "ab", 9)
	for _, c := range errorsOfCheck {
		testNoLoad(t, h, c.program, c.proof, c.e, c.at)
		testNone(t, h, 2)
	}
	testCells(t, h, 1, 0, 0, 0, 2, 0, 0, 0, 0)
	testLoad(t, h, keeping, 2)
	testHostRun(t, h, 2, "", 9, api.State{How: api.Ended, Line: 2, Value: 1, Regs: regs(0, 0, 1, 1)})
}

func TestHostKnowsItsPrograms(t *testing.T) {
	h := NewHost()
	for loaded := range 4 {
		for _, id := range []int{0, -1, -2, -10, loaded + 1, loaded + 2, api.MaxLoaded, api.MaxLoaded + 1, math.MaxInt, math.MinInt, 1 << 32, 1<<32 + 1, -1 << 32, math.MinInt + 1} {
			testNone(t, h, id)
		}
		for id := 1; id <= loaded; id++ {
			testCells(t, h, id, 0, 0, 0, 0, 0, 0, 0, 0)
		}
		testLoad(t, h, adding, loaded+1)
	}
}

// TestHostRefusesFuel: and nothing changes.
func TestHostRefusesFuel(t *testing.T) {
	h := NewHost()
	testLoad(t, h, adding, 1)
	testLoad(t, h, keeping, 2)
	h.Run(1, "ab", 9)
	for _, fuel := range []int{-1, api.MaxFuel + 1, math.MaxInt, math.MinInt, 1 << 32, -1 << 32} {
		for id := 1; id <= 2; id++ {
			if s, e := h.Run(id, "abc", fuel); s != (api.State{}) || e != api.ErrConf {
				t.Errorf("P8: Run(%d) with the fuel %d = %+v, %d", id, fuel, s, e)
			}
		}
	}
	testCells(t, h, 1, 0, 0, 0, 2, 0, 0, 0, 0)
	testCells(t, h, 2, 0, 0, 0, 0, 0, 0, 0, 0)
}

// TestHostFuel: it is told off line by line, up to the most that may be.
func TestHostFuel(t *testing.T) {
	h := NewHost()
	const count = "set r1 0; set r2 1; load r3 r1; add r3 r2; keep r1 r3; jmp 2"
	testLoad(t, h, count, 1)
	testHostRun(t, h, 1, "", api.MaxFuel, api.State{Line: 4, Regs: regs(0, 0, 1, 0, 2, 1, 3, 750)})
	testCells(t, h, 1, 749, 0, 0, 0, 0, 0, 0, 0)
	testHostRun(t, h, 1, "", 5, api.State{Line: 5, Regs: regs(0, 0, 1, 0, 2, 1, 3, 750)})
	testCells(t, h, 1, 750, 0, 0, 0, 0, 0, 0, 0)
}

// TestCellsAreTheCallers: whatever is done with a list, spare room and all, it changes neither the host nor another list.
func TestCellsAreTheCallers(t *testing.T) {
	h := NewHost()
	testLoad(t, h, adding, 1)
	testLoad(t, h, adding, 2)
	h.Run(1, "ab", 9)
	early, _ := h.Cells(1)
	h.Run(1, "abc", 9)
	if !slices.Equal(early, []int64{0, 0, 0, 2, 0, 0, 0, 0}) {
		t.Errorf("P2: a list became %v by a further run", early)
	}
	late, _ := h.Cells(1)
	for _, list := range [][]int64{early, late} {
		room := list[:cap(list)]
		for i := range room {
			room[i] = -9
		}
		_ = append(list[:0], 7, 7, 7)
		_ = append(list, 8)
		testCells(t, h, 1, 0, 0, 0, 5, 0, 0, 0, 0)
		testCells(t, h, 2, 0, 0, 0, 0, 0, 0, 0, 0)
	}
	clear(early)
	if late[0] != 7 || late[3] != -9 {
		t.Errorf("P2: two lists share their memory: %v", late)
	}
	testHostRun(t, h, 1, "", 9, api.State{How: api.Ended, Line: 5, Value: 5, Regs: regs(0, 0, 1, 3, 2, 5), Out: "5"})
	first, _ := h.Cells(1)
	second, _ := h.Cells(2)
	clear(first[:cap(first)])
	for i := range second {
		second[i] = 1
	}
	testCells(t, h, 1, 0, 0, 0, 5, 0, 0, 0, 0)
	testCells(t, h, 2, 0, 0, 0, 0, 0, 0, 0, 0)
}
