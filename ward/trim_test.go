package ward

import (
	"strconv"
	"strings"
	"testing"

	"ward/api"
)

// told is a text with its lines told in one.
func told(text string) string { return strings.ReplaceAll(text, "\n", "; ") }

// testTrim: the trimmed program byte by byte; it is a program that the same proof proves, that is trimmed already, and that runs alike.
func testTrim(t *testing.T, program, proof, want string) {
	t.Helper()
	s, e, at := Trim(prog(program), prog(proof))
	if s != prog(want) || e != api.OK || at != 0 {
		t.Errorf("P7: Trim(%.300q, %.300q) = %q, %d, %d, want %q", program, proof, told(s), e, at, want)
		return
	}
	testCheck(t, want, proof, api.OK, 0)
	if s, e, at := Trim(prog(want), prog(proof)); s != prog(want) || e != api.OK || at != 0 {
		t.Errorf("P7: Trim(%.300q, %.300q), trimmed already = %q, %d, %d", want, proof, told(s), e, at)
	}
	for _, input := range []string{"", "a", "\xff\x00\x07", strings.Repeat("q", 64)} {
		testRunsAlike(t, prog(program), prog(want), input, 30)
	}
}

// testRunsAlike: line by line, so with each fuel.
func testRunsAlike(t *testing.T, program, trimmed, input string, most int) {
	t.Helper()
	for fuel := range most {
		a, e, at := Run(program, input, fuel)
		b, e2, at2 := Run(trimmed, input, fuel)
		if a != b || e != api.OK || at != 0 || e2 != api.OK || at2 != 0 {
			t.Fatalf("P9: %q with %d bytes and the fuel %d: %+v, %d, %d; trimmed (%q) %+v, %d, %d", program, len(input), fuel, a, e, at, trimmed, b, e2, at2)
		}
	}
}

func testNoTrim(t *testing.T, program, proof string, want api.Errno, to int) {
	t.Helper()
	if s, e, at := Trim(prog(program), prog(proof)); s != "" || e != want || at != to {
		t.Errorf("P7: Trim(%.200q, %.200q) = %q, %d, %d, want %d, %d", program, proof, s, e, at, want, to)
	}
}

func TestTrimExamples(t *testing.T) {
	const alike = "jeq r0 r0 2; end r7; end r0"
	testTrim(t, alike, "ok r0=0..64; -; ok r0=0..100", "jmp 2; jmp 1; end r0")
	testNoTrim(t, alike, "ok; -; ok r0=0..64", api.ErrClaim, 0)
	const masked = "set r1 63; and r1 r0; in r2 r1; end r2"
	testTrim(t, masked, "ok r0=0..64; ok r0=0..64 r1=63..63; ok r1=0..63; ok r2=0..255", masked)
	const filling = "set r1 0; set r2 16; set r3 1; jlt r1 r2 5; end r1; put r1 r3; add r1 r3; jmp 3"
	proof, _, _ := Prove(prog(filling))
	testTrim(t, filling, proof, filling)
	const keeping = "set r1 1; keep r1 r1; end r1"
	testTrim(t, keeping, "ok; ok r1=1..1; ok r1=1..1", keeping)
	testTrim(t, "end r0", "ok r0=0..64", "end r0")
	testTrim(t, "jmp 0", "ok", "jmp 0")
}

// TestTrimLinesThatAreNeverGone: whatever their word is, and where they stand.
func TestTrimLinesThatAreNeverGone(t *testing.T) {
	for _, line := range []string{
		"set r1 -1000000000", "mov r1 r2", "add r1 r2", "sub r1 r2", "mul r1 r2", "and r1 r2", "div r1 r2", "in r1 r2", "get r1 r2", "put r1 r2", "load r1 r2", "keep r1 r2",
		"out r1", "jmp 0", "jmp 1", "jmp 2", "jlt r1 r2 0", "jlt r0 r0 2", "jlt r1 r2 1", "jeq r1 r2 0", "jeq r0 r0 0", "jeq r1 r2 2", "end r0", "end r7",
	} {
		testTrim(t, "jmp 2; "+line+"; end r0", "ok r0=0..64; -; ok r0=0..64", "jmp 2; jmp 1; end r0")
		// By a claim that says more the same line stays.
		if !strings.HasPrefix(line, "j") {
			testTrim(t, "jmp 2; "+line+"; end r0", "ok r0=0..64; ok r0=0..0 r1=1..1 r2=2..2 r7=0..0; ok r0=0..64", "jmp 2; "+line+"; end r0")
		}
	}
	testTrim(t, "end r0; end r0; jmp 0; out r0; end r1", "ok r0=0..64; -; -; -; -", "end r0; jmp 1; jmp 2; jmp 3; jmp 4")
	// What is claimed counts, not what can be so: runs do not come to line 1, but its claim is not never.
	testTrim(t, "jmp 2; jmp 2; end r0", "ok r0=0..64; ok r0=1..1; ok r0=0..64", "jmp 2; jmp 2; end r0")
}

// TestTrimTurns: at line 1, which no line leads to, so that its claim is any that is told.
func TestTrimTurns(t *testing.T) {
	const stays = -1
	for _, c := range []struct {
		word, r, s string
		to         int // line 2 is next; L is 4
	}{
		{"jlt", "0..4", "5..9", 4}, {"jlt", "0..5", "5..9", stays}, {"jlt", "0..9", "5..9", stays}, {"jlt", "8..9", "5..9", stays}, {"jlt", "9..9", "5..9", 2}, {"jlt", "9..20", "5..9", 2}, {"jlt", "0..99", "5..9", stays}, {"jlt", "6..7", "5..9", stays},
		{"jlt", "3..3", "3..3", 2}, {"jlt", "3..3", "4..4", 4}, {"jlt", "4..4", "3..3", 2}, {"jlt", "-1..0", "0..1", stays}, {"jlt", "-2..-1", "0..1", 4}, {"jlt", "-1..1", "-2..-1", 2}, {"jlt", all, all, stays},
		{"jlt", lowest + ".." + lowest, lowest + ".." + lowest, 2}, {"jlt", all, lowest + ".." + lowest, 2}, {"jlt", lowest + ".." + lowest, all, stays}, {"jlt", lowest + ".." + lowest, "-9223372036854775807.." + highest, 4},
		{"jlt", highest + ".." + highest, highest + ".." + highest, 2}, {"jlt", highest + ".." + highest, all, 2}, {"jlt", all, highest + ".." + highest, stays}, {"jlt", lowest + "..9223372036854775806", highest + ".." + highest, 4},
		{"jeq", "0..4", "5..9", 2}, {"jeq", "5..9", "0..4", 2}, {"jeq", "0..5", "5..9", stays}, {"jeq", "9..20", "5..9", stays}, {"jeq", "10..20", "5..9", 2}, {"jeq", "5..9", "5..9", stays}, {"jeq", "7..7", "5..9", stays}, {"jeq", "5..9", "7..7", stays},
		{"jeq", "7..7", "7..7", 4}, {"jeq", "7..7", "8..8", 2}, {"jeq", "7..7", "7..8", stays}, {"jeq", "6..7", "7..7", stays}, {"jeq", "-1..-1", "-1..-1", 4}, {"jeq", "0..0", "0..0", 4}, {"jeq", all, all, stays},
		{"jeq", lowest + ".." + lowest, lowest + ".." + lowest, 4}, {"jeq", highest + ".." + highest, highest + ".." + highest, 4}, {"jeq", lowest + ".." + lowest, all, stays}, {"jeq", lowest + ".." + lowest, highest + ".." + highest, 2},
	} {
		line := c.word + " r1 r2 4"
		want := line
		if c.to != stays {
			want = "jmp " + strconv.Itoa(c.to)
		}
		proof := "ok r0=0..64; ok r1=" + c.r + " r2=" + c.s + "; ok; ok r0=0..64; ok"
		testTrim(t, "jmp 3; "+line+"; jmp 2; end r0; jmp 4", proof, "jmp 3; "+want+"; jmp 2; end r0; jmp 4")
	}
}

// TestTrimTurnsOfOneRegister: a register is not less than itself, and is itself, whatever is claimed of it.
func TestTrimTurnsOfOneRegister(t *testing.T) {
	for _, span := range []string{"0..64", "5..5", all, lowest + ".." + lowest, highest + ".." + highest} {
		proof := "ok r0=0..64; ok r1=" + span + "; ok; ok r0=0..64; ok"
		testTrim(t, "jmp 3; jlt r1 r1 4; jmp 2; end r0; jmp 4", proof, "jmp 3; jmp 2; jmp 2; end r0; jmp 4")
		testTrim(t, "jmp 3; jeq r1 r1 4; jmp 2; end r0; jmp 4", proof, "jmp 3; jmp 4; jmp 2; end r0; jmp 4")
	}
	// The way that is not gone may lead to a line of which never is claimed.
	testTrim(t, "jlt r0 r0 2; end r0; div r7 r7; end r0", "ok r0=0..64; ok r0=0..64; -; -", "jmp 1; end r0; jmp 2; jmp 3")
}

// TestTrimBothWaysToOneLine: two ways that are gone are two, though they lead to one line; a single one is a jmp there.
func TestTrimBothWaysToOneLine(t *testing.T) {
	const proof = "ok r0=0..64; ok r0=0..64 r1=5..5; ok r0=0..64"
	testTrim(t, "set r1 5; jlt r0 r1 2; end r0", proof, "set r1 5; jlt r0 r1 2; end r0")
	testTrim(t, "set r1 5; jeq r0 r1 2; end r0", proof, "set r1 5; jeq r0 r1 2; end r0")
	const beyond = "ok r0=0..64; ok r0=0..64 r1=65..65; ok r0=0..64"
	testTrim(t, "set r1 65; jlt r0 r1 2; end r0", beyond, "set r1 65; jmp 2; end r0")
	testTrim(t, "set r1 65; jlt r1 r0 2; end r0", beyond, "set r1 65; jmp 2; end r0")
	testTrim(t, "set r1 65; jeq r0 r1 2; end r0", beyond, "set r1 65; jmp 2; end r0")
	testTrim(t, "jeq r0 r0 1; end r0", "ok r0=0..64; ok r0=0..64", "jmp 1; end r0")
	testTrim(t, "jlt r0 r0 1; end r0", "ok r0=0..64; ok r0=0..64", "jmp 1; end r0")
}

// TestTrimWaysAnywhere: to the line itself, back, far ahead.
func TestTrimWaysAnywhere(t *testing.T) {
	testTrim(t, "jeq r0 r0 0; end r7", "ok r0=0..64; -", "jmp 0; jmp 1")
	testTrim(t, "set r1 65; jlt r0 r1 1; end r7", "ok r0=0..64; ok r0=0..64 r1=65..65; -", "set r1 65; jmp 1; jmp 2")
	testTrim(t, "out r0; set r1 65; jlt r0 r1 0; end r7", "ok r0=0..64; ok r0=0..64; ok r0=0..64 r1=65..65; -", "out r0; set r1 65; jmp 0; jmp 3")
	testTrim(t, "set r1 65; jeq r0 r1 0; end r0", "ok r0=0..64; ok r0=0..64 r1=65..65; ok r0=0..64", "set r1 65; jmp 2; end r0")

	blank := strings.Repeat("out r7\n", api.MaxLines-2)
	nothing := strings.Repeat("-\n", api.MaxLines-2)
	trimmed := "jmp 99"
	for at := 1; at < api.MaxLines-1; at++ {
		trimmed += "; jmp " + strconv.Itoa(at)
	}
	testTrim(t, "jeq r0 r0 99\n"+blank+"end r0", "ok r0=0..64\n"+nothing+"ok r0=0..64", trimmed+"; end r0")
	// The longest that a program can become: each line but the first is never gone.
	testTrim(t, "jmp 0\n"+blank+"jmp 9", "ok\n"+nothing+"-", "jmp 0"+strings.TrimPrefix(trimmed, "jmp 99")+"; jmp 99")
	// In 99 jumps each that is gone is told by the line behind it.
	outs := strings.Repeat("jlt r0 r0 0\n", api.MaxLines-1)
	next := ""
	for at := range api.MaxLines - 1 {
		next += "jmp " + strconv.Itoa(at+1) + "; "
	}
	testTrim(t, outs+"end r0", strings.Repeat("ok r0=0..64\n", api.MaxLines-1)+"ok r0=0..64", next+"end r0")
}

// TestTrimByTheProofAlone: the same program by proofs that say more, and less.
func TestTrimByTheProofAlone(t *testing.T) {
	const program = "set r1 70; jlt r0 r1 3; out r0; end r0"
	testTrim(t, program, "ok r0=0..64; ok r0=0..64 r1=70..70; -; ok r0=0..64", "set r1 70; jmp 3; jmp 2; end r0")
	testTrim(t, program, "ok r0=0..64; ok r0=0..64 r1=70..70; ok r0=0..64; ok r0=0..64", "set r1 70; jmp 3; out r0; end r0")
	testTrim(t, program, "ok r0=0..64; ok r0=0..69 r1=70..70; -; ok r0=0..69", "set r1 70; jmp 3; jmp 2; end r0")
	testTrim(t, program, "ok r0=0..64; ok r0=0..70 r1=70..70; ok r0=0..99; ok r0=0..99", program)
	testTrim(t, program, "ok r0=0..64; ok r0=0..64 r1=64..70; ok r0=64..64; ok r0=0..64", program)
	testTrim(t, program, "ok r0=0..64; ok r0=0..64 r1=65..70; -; ok r0=0..64", "set r1 70; jmp 3; jmp 2; end r0")
}

// TestTrimOnce: what is trimmed is not looked at again; a jump that leads to a jmp stays as it is.
func TestTrimOnce(t *testing.T) {
	testTrim(t, "jmp 1; jeq r0 r0 2; jmp 3; end r0", "ok r0=0..64; ok r0=0..64; ok r0=0..64; ok r0=0..64", "jmp 1; jmp 2; jmp 3; end r0")
	testTrim(t, "jmp 1; jmp 1; jmp 0", "ok; ok; ok", "jmp 1; jmp 1; jmp 0")
}

// errorsOfCheck are pairs that Check refuses, each error with its place, those first that come ahead of others.
var errorsOfCheck = []struct {
	program, proof string
	e              api.Errno
	at             int
}{
	{strings.Repeat(" ", api.MaxText+1), "ok r0=0..64", api.ErrLong, 0},
	{strings.Repeat("out r0\n", api.MaxLines) + "end r0", strings.Repeat("ok r0=0..64\n", api.MaxLines) + "ok r0=0..64", api.ErrLong, 0},
	{"", "", api.ErrForm, 0}, {"end", "ok", api.ErrForm, 0}, {"end r0; end; jmp 9", "x", api.ErrForm, 1}, {"end r0; end r8", strings.Repeat("x", api.MaxProof+1), api.ErrForm, 1},
	{"jmp 1", "", api.ErrLine, 0}, {"end r0; end r0; jmp 3", "x", api.ErrLine, 2}, {"end r0; jmp 9223372036854775807", "-", api.ErrLine, 1},
	{"out r0", "", api.ErrEnd, 0}, {"end r0; out r0", "-; -", api.ErrEnd, 1}, {"jlt r0 r0 0", strings.Repeat("x", api.MaxProof+1), api.ErrEnd, 0},
	{"end r0", strings.Repeat("x", api.MaxProof+1), api.ErrLong, 0},
	{"end r0", "", api.ErrProof, 0}, {"end r0", strings.Repeat("x", api.MaxProof), api.ErrProof, 0}, {"end r0", "ok r0=0..64; ok r0=0..64", api.ErrProof, 1}, {"end r0", "ok r0=0..64\n", api.ErrProof, 1}, {"out r0; end r0", "ok r0=0..64", api.ErrProof, 1},
	{"out r0; end r0", "ok; x", api.ErrProof, 1}, {"out r0; end r0", "-; ok r0=1..0", api.ErrProof, 1}, {"out r0; out r0; end r0", "-; ok r1=0..1 r0=0..1; -", api.ErrProof, 1},
	{"end r0", "-", api.ErrClaim, 0}, {"end r0", "ok r0=0..63", api.ErrClaim, 0}, {"end r0", "ok", api.ErrClaim, 0}, {"end r1", "ok", api.ErrClaim, 0}, {"end r1", "ok r1=0..1", api.ErrClaim, 0},
	{"out r0; end r1", "ok r0=0..64; ok", api.ErrClaim, 1}, {"out r0; end r0", "ok r0=0..64; -", api.ErrClaim, 0}, {"out r0; out r0; end r1", "ok r0=0..64; ok; ok", api.ErrClaim, 1},
	{"set r1 5; add r1 r0; in r2 r1; end r2", "ok r0=0..64; ok r0=0..64 r1=5..5; ok r0=0..64 r1=5..69; ok r2=0..255", api.ErrClaim, 2}, {"jeq r0 r0 2; end r7; end r0", "ok; -; ok r0=0..64", api.ErrClaim, 0},
}

func TestTrimTellsTheErrorsOfCheck(t *testing.T) {
	for _, c := range errorsOfCheck {
		testCheck(t, c.program, c.proof, c.e, c.at)
		testNoTrim(t, c.program, c.proof, c.e, c.at)
	}
}
