package ward

import (
	"math"
	"strconv"
	"strings"
	"testing"

	"ward/api"
)

// regs are registers that are set: pairs of a register and its number.
func regs(pairs ...int64) [api.Registers]api.Register {
	var out [api.Registers]api.Register
	for i := 0; i < len(pairs); i += 2 {
		out[pairs[i]] = api.Register{Set: true, N: pairs[i+1]}
	}
	return out
}

func testRun(t *testing.T, program, input string, fuel int, want api.State) {
	t.Helper()
	if s, e, at := Run(prog(program), input, fuel); s != want || e != api.OK || at != 0 {
		t.Errorf("P4: Run(%q, %.20q, %d) = %+v, %d, %d, want %+v", program, input, fuel, s, e, at, want)
	}
}

func TestRunExample(t *testing.T) {
	const program = "set r1 5; add r1 r0; in r2 r1; end r2"
	testRun(t, program, "abc", 4, api.State{How: api.Ended, Line: 3, Regs: regs(0, 3, 1, 8, 2, 0)})
	testRun(t, program, strings.Repeat("x", 60), 4, api.State{How: api.Fault, Line: 2, Why: api.Place, Regs: regs(0, 60, 1, 65)})
	testRun(t, program, strings.Repeat("x", 58), 4, api.State{How: api.Ended, Line: 3, Regs: regs(0, 58, 1, 63, 2, 0)})
}

func TestRunTakesTheInput(t *testing.T) {
	bytes := make([]byte, 70)
	for i := range bytes {
		bytes[i] = byte(255 - i)
	}
	for _, handed := range []int{0, 1, 2, 63, 64, 65, 70} {
		for place := range api.Input {
			var want int64
			if place < handed {
				want = int64(255 - place)
			}
			count := int64(min(handed, api.Input))
			testRun(t, "set r1 "+strconv.Itoa(place)+"; in r1 r1; end r1", string(bytes[:handed]), 3,
				api.State{How: api.Ended, Line: 2, Value: want, Regs: regs(0, count, 1, want)})
		}
	}
}

func TestRunCells(t *testing.T) {
	for _, c := range []struct {
		put, get string
		cells    int
	}{{"put", "get", api.Cells}, {"keep", "load", api.Kept}} {
		for place := range c.cells {
			p := int64(place)
			at := strconv.Itoa(place)
			testRun(t, "set r1 "+at+"; set r2 -5; "+c.put+" r1 r2; "+c.get+" r3 r1; end r3", "", 9,
				api.State{How: api.Ended, Line: 4, Value: -5, Regs: regs(0, 0, 1, p, 2, -5, 3, -5)})
			testRun(t, "set r1 "+at+"; "+c.get+" r1 r1; end r1", "", 9,
				api.State{How: api.Ended, Line: 2, Regs: regs(0, 0, 1, 0)})
		}
	}
	// The two kinds of cells are apart, and so are the places of one kind.
	testRun(t, "set r1 7; set r2 5; put r1 r2; load r3 r1; set r2 6; keep r1 r2; get r4 r1; set r1 6; get r5 r1; load r6 r1; end r4", "", 99,
		api.State{How: api.Ended, Line: 10, Value: 5, Regs: regs(0, 0, 1, 6, 2, 6, 3, 0, 4, 5, 5, 0, 6, 0)})
}

// TestRunKeepsNothing: what a run kept is gone at the next one; it is hosts that keep.
func TestRunKeepsNothing(t *testing.T) {
	const program = "set r1 3; load r2 r1; keep r1 r1; get r3 r1; put r1 r1; add r2 r3; end r2"
	for range 3 {
		testRun(t, program, "", 99, api.State{How: api.Ended, Line: 6, Regs: regs(0, 0, 1, 3, 2, 0, 3, 0)})
	}
}

func TestRunFuel(t *testing.T) {
	const program = "set r1 2; out r1; jlt r1 r0 4; end r1; out r0; jmp 2"
	for fuel, want := range []api.State{
		{Line: 0, Regs: regs(0, 3)},
		{Line: 1, Regs: regs(0, 3, 1, 2)},
		{Line: 2, Regs: regs(0, 3, 1, 2), Out: "2"},
		{Line: 4, Regs: regs(0, 3, 1, 2), Out: "2"},
		{Line: 5, Regs: regs(0, 3, 1, 2), Out: "2 3"},
		{Line: 2, Regs: regs(0, 3, 1, 2), Out: "2 3"},
	} {
		testRun(t, program, "abc", fuel, want)
	}
	testRun(t, "end r0", "ab", 0, api.State{Regs: regs(0, 2)})
	testRun(t, "end r0", "ab", 1, api.State{How: api.Ended, Value: 2, Regs: regs(0, 2)})
	testRun(t, "end r1", "ab", 0, api.State{Regs: regs(0, 2)})
	testRun(t, "end r1", "ab", 1, api.State{How: api.Fault, Why: api.Unset, Regs: regs(0, 2)})
	// The 3000th line is the last one that is gone, be it an end or not.
	const count = "set r1 0; set r2 1; add r1 r2; jmp 2"
	testRun(t, count, "", api.MaxFuel, api.State{Line: 2, Regs: regs(0, 0, 1, 1499, 2, 1)})
	testRun(t, count, "", api.MaxFuel-1, api.State{Line: 3, Regs: regs(0, 0, 1, 1499, 2, 1)})
	const exact = "set r1 0; set r2 1; set r3 1498; add r1 r2; jlt r1 r3 3; end r1"
	testRun(t, exact, "", api.MaxFuel, api.State{How: api.Ended, Line: 5, Value: 1498, Regs: regs(0, 0, 1, 1498, 2, 1, 3, 1498)})
	testRun(t, exact, "", api.MaxFuel-1, api.State{Line: 5, Regs: regs(0, 0, 1, 1498, 2, 1, 3, 1498)})
}

func TestRunRefuses(t *testing.T) {
	for _, fuel := range []int{-1, api.MaxFuel + 1, math.MaxInt, math.MinInt} {
		for _, c := range []readCase{{"end r0", api.ErrConf, 0}, {"out r0; jmp 0", api.ErrConf, 0}} {
			testRefused(t, c, fuel)
		}
	}
	// What is wrong with the program comes ahead of what is wrong with the fuel.
	for _, fuel := range []int{0, api.MaxFuel, -1, api.MaxFuel + 1} {
		for _, c := range []readCase{
			{strings.Repeat("x", api.MaxText+1), api.ErrLong, 0},
			{"end r0; end", api.ErrForm, 1},
			{"end r0; jmp 2", api.ErrLine, 1},
			{"end r0; out r0; out r0", api.ErrEnd, 2},
		} {
			testRefused(t, c, fuel)
		}
	}
}

func testRefused(t *testing.T, c readCase, fuel int) {
	t.Helper()
	if s, e, at := Run(prog(c.program), "abc", fuel); s != (api.State{}) || e != c.e || at != c.at {
		t.Errorf("P4: Run(%.60q, fuel %d) = %+v, %d, %d, want %d, %d", c.program, fuel, s, e, at, c.e, c.at)
	}
}

func TestRunJumps(t *testing.T) {
	for _, c := range []struct {
		a, b     string
		less, eq bool
	}{
		{"1", "2", true, false}, {"2", "1", false, false}, {"2", "2", false, true}, {"-1", "0", true, false}, {"0", "-1", false, false},
		{"-1000000000", "1000000000", true, false}, {"1000000000", "-1000000000", false, false}, {"-3", "-3", false, true}, {"-3", "-2", true, false},
	} {
		for word, gone := range map[string]bool{"jlt": c.less, "jeq": c.eq} {
			want := 3
			if gone {
				want = 4
			}
			s, e, _ := Run(prog("set r1 "+c.a+"; set r2 "+c.b+"; "+word+" r1 r2 4; end r1; end r2"), "", 4)
			if e != api.OK || s.How != api.Ended || s.Line != want {
				t.Errorf("P4: %s with %s and %s: %+v, want line %d", word, c.a, c.b, s, want)
			}
		}
	}
	testRun(t, "jlt r0 r0 2; end r0; jmp 2", "", 9, api.State{How: api.Ended, Line: 1, Regs: regs(0, 0)})
	testRun(t, "jeq r0 r0 2; jmp 1; end r0", "", 9, api.State{How: api.Ended, Line: 2, Regs: regs(0, 0)})
	testRun(t, "jmp 2; end r7; jmp 1", "", 2, api.State{Line: 1, Regs: regs(0, 0)})
	testRun(t, "jmp 0", "", api.MaxFuel, api.State{Regs: regs(0, 0)})
}

func TestRunPutsOut(t *testing.T) {
	testRun(t, "out r0; set r1 -1000000000; out r1; set r1 0; out r1; out r1; end r1", "abc", 99,
		api.State{How: api.Ended, Line: 6, Regs: regs(0, 3, 1, 0), Out: "3 -1000000000 0 0"})
	// What was put out stays when a later line goes wrong.
	testRun(t, "out r0; out r1; end r0", "", 99, api.State{How: api.Fault, Line: 1, Why: api.Unset, Regs: regs(0, 0), Out: "0"})
	s, e, _ := Run(prog("out r0; jmp 0"), "abc", api.MaxFuel)
	if want := strings.Repeat("3 ", 1499) + "3"; e != api.OK || s.Out != want {
		t.Errorf("P4: 1500 numbers put out: %d bytes, want %d", len(s.Out), len(want))
	}
}

// TestRunNeedsRegisters: for each word, each register that it takes.
func TestRunNeedsRegisters(t *testing.T) {
	for _, line := range []string{
		"mov r0 r1", "mov r1 r2", "add r0 r1", "add r1 r0", "sub r0 r1", "sub r1 r0", "mul r0 r1", "mul r1 r0", "and r0 r1", "and r1 r0",
		"div r0 r1", "div r1 r0", "in r0 r1", "in r1 r2", "get r0 r1", "get r1 r2", "put r0 r1", "put r1 r0", "load r0 r1", "load r1 r2",
		"keep r0 r1", "keep r1 r0", "out r1", "jlt r0 r1 0", "jlt r1 r0 0", "jeq r0 r1 0", "jeq r1 r0 0", "jeq r1 r1 0", "end r1",
	} {
		for _, input := range []string{"", strings.Repeat("x", 64)} {
			count := int64(len(input))
			testRun(t, line+"; end r0", input, 9, api.State{How: api.Fault, Why: api.Unset, Regs: regs(0, count)})
		}
	}
	for _, line := range []string{"set r1 0", "mov r1 r0", "in r1 r0", "get r1 r0", "load r1 r0"} {
		testRun(t, line+"; end r1", "", 9, api.State{How: api.Ended, Line: 1, Regs: regs(0, 0, 1, 0)})
	}
}

func TestRunGoesWrong(t *testing.T) {
	for _, c := range []struct {
		n    string
		line string
		why  int
	}{
		{"0", "div r0 r1", api.Nought}, {"0", "div r1 r1", api.Nought},
		{"64", "in r2 r1", api.Place}, {"-1", "in r2 r1", api.Place}, {"1000000000", "in r1 r1", api.Place},
		{"16", "get r2 r1", api.Place}, {"-1", "get r2 r1", api.Place}, {"-1000000000", "get r1 r1", api.Place},
		{"16", "put r1 r0", api.Place}, {"-1", "put r1 r0", api.Place},
		{"8", "load r2 r1", api.Place}, {"-1", "load r2 r1", api.Place},
		{"8", "keep r1 r0", api.Place}, {"-1", "keep r1 r0", api.Place},
		// Unset comes ahead of all else.
		{"0", "div r2 r1", api.Unset}, {"99", "put r1 r2", api.Unset}, {"99", "keep r1 r2", api.Unset},
	} {
		n, _ := strconv.ParseInt(c.n, 10, 64)
		testRun(t, "set r1 "+c.n+"; "+c.line+"; end r0", "ab", 9,
			api.State{How: api.Fault, Line: 1, Why: c.why, Regs: regs(0, 2, 1, n)})
	}
}

// TestRunReadsPlacesAsWhole: places whose low bits alone would be places.
func TestRunReadsPlacesAsWhole(t *testing.T) {
	for _, n := range []int64{1 << 32, 1 << 62, -1 << 32, math.MinInt64, math.MaxInt64} {
		for _, line := range []string{"in r2 r1", "get r2 r1", "put r1 r0", "load r2 r1", "keep r1 r0"} {
			s, e, _ := Run(prog(number("r1", "r3", n)+"; "+line+"; end r0"), "", 99)
			if e != api.OK || s.How != api.Fault || s.Why != api.Place || s.Line != 9 {
				t.Errorf("P4: %s with r1 of %d: %+v, %d", line, n, s, e)
			}
		}
	}
}
