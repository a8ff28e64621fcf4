package ward

import (
	"strings"
	"testing"

	"ward/api"
)

// prog puts a program together from lines that are told with a semicolon between each two.
func prog(s string) string { return strings.ReplaceAll(s, "; ", "\n") }

type readCase struct {
	program string
	e       api.Errno
	at      int
}

func testRead(t *testing.T, cases []readCase) {
	t.Helper()
	for _, c := range cases {
		text := prog(c.program)
		if e, at := Read(text); e != c.e || at != c.at {
			t.Errorf("P3: Read(%.80q) = %d, %d, want %d, %d", text, e, at, c.e, c.at)
		}
	}
}

func TestReadTakesPrograms(t *testing.T) {
	testRead(t, []readCase{
		{"end r0", api.OK, 0},
		{"jmp 0", api.OK, 0},
		{"end r0; jmp 0", api.OK, 0},
		{"set r0 0; mov r1 r2; add r3 r4; sub r5 r6; mul r7 r0; and r0 r1; div r0 r1; end r0", api.OK, 0},
		{"in r0 r1; get r0 r1; put r0 r1; load r0 r1; keep r0 r1; out r7; end r7", api.OK, 0},
		{"jlt r0 r1 3; jeq r7 r7 0; jmp 2; end r0", api.OK, 0},
		{"set r0 1000000000; set r0 -1000000000; set r0 -1; set r0 10; end r0", api.OK, 0},
	})
}

func TestReadCountsLinesAndBytes(t *testing.T) {
	full := strings.Repeat("set r7 -1000000000\n", api.MaxLines-1)
	testRead(t, []readCase{
		{full + "end r0", api.OK, 0},
		{full + "jmp 99", api.OK, 0},
		{full + "jmp 100", api.ErrLine, 99},
		{full + "out r0", api.ErrEnd, 99},
		{full + "end r8", api.ErrForm, 99},
		{full + "end r0\n", api.ErrLong, 0},
		{full + "out r0\nend r0", api.ErrLong, 0},
		{strings.Repeat("\n", api.MaxLines-1), api.ErrForm, 0},
		{strings.Repeat("\n", api.MaxLines), api.ErrLong, 0},
		// No program has 8000 bytes in 100 lines that are lines: just below the limit it is the form that is wrong.
		{"end r0\n" + strings.Repeat("x", api.MaxText-7), api.ErrForm, 1},
		{"end r0\n" + strings.Repeat("x", api.MaxText-6), api.ErrLong, 0},
		{strings.Repeat(" ", api.MaxText), api.ErrForm, 0},
		{strings.Repeat(" ", api.MaxText+1), api.ErrLong, 0},
		// Bytes count, not runes.
		{strings.Repeat("é", api.MaxText/2), api.ErrForm, 0},
		{strings.Repeat("é", api.MaxText/2+1), api.ErrLong, 0},
	})
}

func TestReadKnowsNumbers(t *testing.T) {
	for _, n := range []string{"0", "1", "-1", "9", "10", "-10", "1000000000", "-1000000000"} {
		testRead(t, []readCase{{"set r0 " + n + "; end r0", api.OK, 0}})
	}
	for _, n := range []string{"", "-", "-0", "00", "01", "-01", "+1", "--1", "1-", "1_0", "1e1", "0x1", "1.", "a", "r1", "٣", "1\x00", "1\r", "\t1",
		"1000000001", "-1000000001", "9223372036854775807", "9223372036854775808", "-9223372036854775808", "-9223372036854775809", "18446744073709551617", strings.Repeat("9", 7000)} {
		testRead(t, []readCase{{"out r0; set r0 " + n + "; end r0", api.ErrForm, 1}})
	}
}

func TestReadKnowsLineNumbers(t *testing.T) {
	for _, head := range []string{"jmp ", "jlt r0 r1 ", "jeq r0 r1 "} {
		for _, n := range []string{"0", "1", "2"} {
			testRead(t, []readCase{{"out r0; " + head + n + "; end r0", api.OK, 0}})
		}
		for _, n := range []string{"3", "10", "100", "1000000001", "4294967296", "9223372036854775807"} {
			testRead(t, []readCase{{"out r0; " + head + n + "; end r0", api.ErrLine, 1}})
		}
		for _, n := range []string{"", "-", "-0", "-1", "00", "02", "+1", "r0", "9223372036854775808", "18446744073709551616", "-9223372036854775808"} {
			testRead(t, []readCase{{"out r0; " + head + n + "; end r0", api.ErrForm, 1}})
		}
	}
}

func TestReadKnowsRegisters(t *testing.T) {
	for _, r := range []string{"r0", "r1", "r2", "r3", "r4", "r5", "r6", "r7"} {
		testRead(t, []readCase{{"end " + r, api.OK, 0}, {"add r0 " + r + "; end r0", api.OK, 0}})
	}
	for _, r := range []string{"", "r", "r8", "r9", "r-1", "r00", "r07", "r10", "R0", "0", "q0", "r/", "r:", "rr", "r0\r", "r\xb2"} {
		testRead(t, []readCase{{"end " + r, api.ErrForm, 0}, {"add r0 " + r + "; end r0", api.ErrForm, 0}, {"add " + r + " r0; end r0", api.ErrForm, 0}})
	}
}

func TestReadKnowsWordsAndBlanks(t *testing.T) {
	testRead(t, []readCase{
		{"", api.ErrForm, 0},
		{" ", api.ErrForm, 0},
		{"\n", api.ErrForm, 0},
		{"end r0\n", api.ErrForm, 1},
		{"\nend r0", api.ErrForm, 0},
		{"out r0\n\nend r0", api.ErrForm, 1},
		{"out r0\r\nend r0", api.ErrForm, 0},
		{"nop; end r0", api.ErrForm, 0},
		{"END r0", api.ErrForm, 0},
		{"en r0", api.ErrForm, 0},
		{"ends r0", api.ErrForm, 0},
		{"end  r0", api.ErrForm, 0},
		{" end r0", api.ErrForm, 0},
		{"end r0 ", api.ErrForm, 0},
		{"end\tr0", api.ErrForm, 0},
		{"endr0", api.ErrForm, 0},
		{"end\u00a0r0", api.ErrForm, 0},
	})
	short := []string{"set r0", "mov r0", "add r0", "sub r0", "mul r0", "and r0", "div r0", "in r0", "get r0", "put r0", "load r0", "keep r0", "out", "jmp", "jlt r0 r0", "jeq r0 r0", "end"}
	long := []string{"set r0 1 1", "mov r0 r0 r0", "add r0 r0 r0", "sub r0 r0 r0", "mul r0 r0 r0", "and r0 r0 r0", "div r0 r0 r0", "in r0 r0 r0", "get r0 r0 r0", "put r0 r0 r0", "load r0 r0 r0", "keep r0 r0 r0", "out r0 r0", "jmp 0 0", "jlt r0 r0 0 0", "jeq r0 r0 0 0", "end r0 r0"}
	mixed := []string{"set 1 r0", "set r0 r0", "mov r0 1", "mov 1 r0", "add r0 1", "in r0 1", "put 1 r0", "out 1", "jmp r0", "jlt r0 0 r0", "jlt 0 r0 r0", "jeq r0 1 0", "end 0"}
	for _, list := range [][]string{short, long, mixed} {
		for _, line := range list {
			testRead(t, []readCase{{"end r0; " + line + "; end r0", api.ErrForm, 1}})
		}
	}
}

func TestReadEndsWithJmpOrEnd(t *testing.T) {
	for _, line := range []string{"set r0 1", "mov r0 r0", "add r0 r0", "sub r0 r0", "mul r0 r0", "and r0 r0", "div r0 r0", "in r0 r0", "get r0 r0", "put r0 r0", "load r0 r0", "keep r0 r0", "out r0", "jlt r0 r0 0", "jeq r0 r0 0"} {
		testRead(t, []readCase{{line, api.ErrEnd, 0}, {"jmp 0; end r0; " + line, api.ErrEnd, 2}, {line + "; end r0", api.OK, 0}})
	}
}

func TestReadTellsTheErrorNamedFirst(t *testing.T) {
	testRead(t, []readCase{
		{"nop\n" + strings.Repeat("x", api.MaxText), api.ErrLong, 0},
		{"out r0\nnop\n" + strings.Repeat("jmp 999\n", api.MaxLines), api.ErrLong, 0},
		{"jmp 9; out r0; nop; nope; out r0", api.ErrForm, 2},
		{"out r0; nop", api.ErrForm, 1},
		{"out r0; jmp 3; jmp 4; out r0", api.ErrLine, 2},
		{"out r0; jmp 4; jmp 5; out r0", api.ErrLine, 1},
		{"out r0; out r0; jeq r0 r0 3", api.ErrLine, 2},
		{"out r0; jmp 2; out r0", api.ErrEnd, 2},
	})
}
