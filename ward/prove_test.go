package ward

import (
	"math/rand"
	"strconv"
	"strings"
	"sync"
	"testing"

	"ward/api"
)

const (
	lowest  = "-9223372036854775808"
	highest = "9223372036854775807"
)

// testProve: the proof byte by byte; and Check takes it.
func testProve(t *testing.T, program, want string) {
	t.Helper()
	proof, e, at := Prove(prog(program))
	if proof != prog(want) || e != api.OK || at != 0 {
		t.Errorf("P6: Prove(%.200q) = %q, %d, %d, want %q", program, strings.ReplaceAll(proof, "\n", "; "), e, at, want)
	}
	testCheck(t, program, want, api.OK, 0)
}

func testNoProof(t *testing.T, program string, want api.Errno, to int) {
	t.Helper()
	if proof, e, at := Prove(prog(program)); proof != "" || e != want || at != to {
		t.Errorf("P6: Prove(%.200q) = %.200q, %d, %d, want %d, %d", program, proof, e, at, want, to)
	}
}

// testProvenLine: what is proven of one line.
func testProvenLine(t *testing.T, program string, line int, want string) {
	t.Helper()
	proof, e, at := Prove(prog(program))
	if e != api.OK || at != 0 {
		t.Fatalf("P6: Prove(%q) = %d, %d", program, e, at)
	}
	if got := strings.Split(proof, "\n")[line]; got != want {
		t.Errorf("P6: Prove(%q) claims %q of line %d, want %q", program, got, line, want)
	}
	if e, at := Check(prog(program), proof); e != api.OK || at != 0 {
		t.Errorf("P9: Check of what Prove finds of %q = %d, %d", program, e, at)
	}
}

func TestProveExamples(t *testing.T) {
	testNoProof(t, "set r1 5; add r1 r0; in r2 r1; end r2", api.ErrClaim, 2)
	testProve(t, "set r1 63; and r1 r0; in r2 r1; end r2", "ok r0=0..64; ok r0=0..64 r1=63..63; ok r0=0..64 r1=0..63; ok r0=0..64 r1=0..63 r2=0..255")
	testProve(t, "set r1 0; set r2 16; set r3 1; jlt r1 r2 5; end r1; put r1 r3; add r1 r3; jmp 3",
		"ok r0=0..64; ok r0=0..64 r1=0..0; ok r0=0..64 r1=0..0 r2=16..16; ok r0=0..64 r1=0.."+highest+" r2=16..16 r3=1..1; ok r0=0..64 r1=16.."+highest+" r2=16..16 r3=1..1; ok r0=0..64 r1=0..15 r2=16..16 r3=1..1; ok r0=0..64 r1=0..15 r2=16..16 r3=1..1; ok r0=0..64 r1=1..16 r2=16..16 r3=1..1")
	testProve(t, "jeq r0 r0 2; end r7; end r0", "ok r0=0..64; -; ok r0=0..64")
	testProve(t, "set r1 1; keep r1 r1; end r1", "ok r0=0..64; ok r0=0..64 r1=1..1; ok r0=0..64 r1=1..1")
}

// TestProveEachWord: what each word does to a claim, and the text of a proof.
func TestProveEachWord(t *testing.T) {
	testProve(t, "end r0", "ok r0=0..64")
	testProve(t, "jmp 0", "ok r0=0..64")
	testProve(t, "set r7 -1000000000; mov r0 r7; out r0; end r7", "ok r0=0..64; ok r0=0..64 r7=-1000000000..-1000000000; ok r0=-1000000000..-1000000000 r7=-1000000000..-1000000000; ok r0=-1000000000..-1000000000 r7=-1000000000..-1000000000")
	testProve(t, "set r1 -3; add r0 r1; sub r1 r0; mul r0 r1; end r0", "ok r0=0..64; ok r0=0..64 r1=-3..-3; ok r0=-3..61 r1=-3..-3; ok r0=-3..61 r1=-64..0; ok r0=-3904..192 r1=-64..0")
	testProve(t, "set r2 -5; div r0 r2; and r2 r0; set r2 15; get r1 r2; put r2 r1; end r1", "ok r0=0..64; ok r0=0..64 r2=-5..-5; ok r0=-12..0 r2=-5..-5; ok r0=-12..0 r2="+all+"; ok r0=-12..0 r2=15..15; ok r0=-12..0 r1="+all+" r2=15..15; ok r0=-12..0 r1="+all+" r2=15..15")
	testProve(t, "set r3 7; load r1 r3; in r2 r3; keep r3 r1; and r1 r2; end r1", "ok r0=0..64; ok r0=0..64 r3=7..7; ok r0=0..64 r1="+all+" r3=7..7; ok r0=0..64 r1="+all+" r2=0..255 r3=7..7; ok r0=0..64 r1="+all+" r2=0..255 r3=7..7; ok r0=0..64 r1=0..255 r2=0..255 r3=7..7")
	testProve(t, "set r1 5; jlt r0 r1 3; end r0; end r1", "ok r0=0..64; ok r0=0..64 r1=5..5; ok r0=5..64 r1=5..5; ok r0=0..4 r1=5..5")
	testProve(t, "set r1 5; jeq r0 r1 3; end r0; end r1", "ok r0=0..64; ok r0=0..64 r1=5..5; ok r0=0..64 r1=5..5; ok r0=5..5 r1=5..5")
}

// TestProveWaysThatAreNotGone: no run comes to a line that only such ways lead to.
func TestProveWaysThatAreNotGone(t *testing.T) {
	testProve(t, "jmp 2; div r7 r7; end r0", "ok r0=0..64; -; ok r0=0..64")
	testProve(t, "jmp 3; jmp 2; jmp 1; end r0", "ok r0=0..64; -; -; ok r0=0..64")
	testProve(t, "end r0; end r7; jmp 0", "ok r0=0..64; -; -")
	testProve(t, "set r1 65; jlt r0 r1 3; end r5; end r0", "ok r0=0..64; ok r0=0..64 r1=65..65; -; ok r0=0..64 r1=65..65")
	testProve(t, "set r1 64; jlt r0 r1 3; end r1; end r0", "ok r0=0..64; ok r0=0..64 r1=64..64; ok r0=64..64 r1=64..64; ok r0=0..63 r1=64..64")
	testProve(t, "set r1 0; jlt r0 r1 3; end r0; end r5", "ok r0=0..64; ok r0=0..64 r1=0..0; ok r0=0..64 r1=0..0; -")
	testProve(t, "set r1 65; jeq r0 r1 3; end r0; end r5", "ok r0=0..64; ok r0=0..64 r1=65..65; ok r0=0..64 r1=65..65; -")
	testProve(t, "set r1 3; set r2 3; jeq r1 r2 4; end r5; end r1", "ok r0=0..64; ok r0=0..64 r1=3..3; ok r0=0..64 r1=3..3 r2=3..3; -; ok r0=0..64 r1=3..3 r2=3..3")
	testProve(t, "jlt r0 r0 2; end r0; end r5", "ok r0=0..64; ok r0=0..64; -")
	testProve(t, "jeq r0 r0 2; end r5; end r0", "ok r0=0..64; -; ok r0=0..64")
	// A line that can't be reached joins nothing to those behind it.
	testProve(t, "jmp 2; set r0 99; end r0", "ok r0=0..64; -; ok r0=0..64")
	testProve(t, "jmp 3; set r0 99; jmp 0; end r0", "ok r0=0..64; -; -; ok r0=0..64")
	// Nor does one whose needs are not met: line 2 is still never, and so is not told.
	testNoProof(t, "jmp 1; out r5; out r6; end r7", api.ErrClaim, 1)
}

// TestProveJoins: what two ways say of one line.
func TestProveJoins(t *testing.T) {
	// A register that both have, from the lesser least to the greater greatest number.
	testProve(t, "set r1 5; jlt r0 r1 4; set r2 1; jmp 5; set r2 9; end r2", "ok r0=0..64; ok r0=0..64 r1=5..5; ok r0=5..64 r1=5..5; ok r0=5..64 r1=5..5 r2=1..1; ok r0=0..4 r1=5..5; ok r0=0..64 r1=5..5 r2=1..9")
	testProve(t, "set r1 5; jlt r0 r1 4; set r2 9; jmp 5; set r2 1; end r2", "ok r0=0..64; ok r0=0..64 r1=5..5; ok r0=5..64 r1=5..5; ok r0=5..64 r1=5..5 r2=9..9; ok r0=0..4 r1=5..5; ok r0=0..64 r1=5..5 r2=1..9")
	// A register that only one of them has: the one that was there, the one that comes, each its own.
	testProve(t, "set r1 5; jlt r0 r1 3; set r2 1; end r0", "ok r0=0..64; ok r0=0..64 r1=5..5; ok r0=5..64 r1=5..5; ok r0=0..64 r1=5..5")
	testProve(t, "set r1 5; jlt r0 r1 4; set r2 1; jmp 5; set r3 1; end r0", "ok r0=0..64; ok r0=0..64 r1=5..5; ok r0=5..64 r1=5..5; ok r0=5..64 r1=5..5 r2=1..1; ok r0=0..4 r1=5..5; ok r0=0..64 r1=5..5")
	testProve(t, "set r2 5; jlt r0 r2 5; set r1 1; out r0; end r0; jmp 3", "ok r0=0..64; ok r0=0..64 r2=5..5; ok r0=5..64 r2=5..5; ok r0=0..64 r2=5..5; ok r0=0..64 r2=5..5; ok r0=0..4 r2=5..5")
	testProve(t, "set r1 5; jmp 0", "ok r0=0..64; ok r0=0..64 r1=5..5")
	testNoProof(t, "set r2 5; jlt r0 r2 5; set r1 1; out r0; end r1; jmp 3", api.ErrClaim, 4)
	// Both ways of a jump to one line: the next one, and then the same as L.
	testProve(t, "set r1 5; jlt r0 r1 2; end r0", "ok r0=0..64; ok r0=0..64 r1=5..5; ok r0=0..64 r1=5..5")
	testProve(t, "set r1 5; jeq r0 r1 2; end r0", "ok r0=0..64; ok r0=0..64 r1=5..5; ok r0=0..64 r1=5..5")
	testProve(t, "set r1 70; jlt r1 r0 2; end r0", "ok r0=0..64; ok r0=0..64 r1=70..70; ok r0=0..64 r1=70..70")
	testProve(t, "jeq r0 r0 1; end r0", "ok r0=0..64; ok r0=0..64")
	// A line's way to itself says nothing new of it.
	testProve(t, "jmp 1; jmp 1", "ok r0=0..64; ok r0=0..64")
	testProve(t, "set r1 5; jlt r0 r1 1; end r0", "ok r0=0..64; ok r0=0..64 r1=5..5; ok r0=5..64 r1=5..5")
	testProve(t, "set r1 5; jeq r0 r1 1; end r0", "ok r0=0..64; ok r0=0..64 r1=5..5; ok r0=0..64 r1=5..5")
	testProve(t, "jlt r0 r0 0; jeq r0 r0 1; end r5", "ok r0=0..64; ok r0=0..64; -")
}

// counting is a loop of r1 from 0 to a number: line 3 is changed once in each round.
func counting(to int) string {
	return "set r1 0; set r2 " + strconv.Itoa(to) + "; set r3 1; jlt r1 r2 5; end r1; add r1 r3; jmp 3"
}

// TestProveLetsGo: in the round in which a claim was changed in 7 earlier ones, not in that in which it was in 6.
func TestProveLetsGo(t *testing.T) {
	const head, rest = "ok r0=0..64; ok r0=0..64 r1=0..0; ok r0=0..64 r1=0..0 r2=", " r3=1..1"
	loop := func(top, at3, at4, at5, at6 string) string {
		rest := " r2=" + top + rest
		return head + top + "; ok r0=0..64 r1=" + at3 + rest + "; ok r0=0..64 r1=" + at4 + rest + "; ok r0=0..64 r1=" + at5 + rest + "; ok r0=0..64 r1=" + at6 + rest
	}
	testProve(t, counting(1), loop("1..1", "0..1", "1..1", "0..0", "1..1"))
	testProve(t, counting(6), loop("6..6", "0..6", "6..6", "0..5", "1..6"))
	testProve(t, counting(7), loop("7..7", "0..7", "7..7", "0..6", "1..7"))
	testProve(t, counting(8), loop("8..8", "0.."+highest, "8.."+highest, "0..7", "1..8"))
	testProve(t, counting(1000000000), loop("1000000000..1000000000", "0.."+highest, "1000000000.."+highest, "0..999999999", "1..1000000000"))
	testProve(t, counting(0), "ok r0=0..64; ok r0=0..64 r1=0..0; ok r0=0..64 r1=0..0 r2=0..0; ok r0=0..64 r1=0..0 r2=0..0 r3=1..1; ok r0=0..64 r1=0..0 r2=0..0 r3=1..1; -; -")
	for top := range 13 {
		want := "0.." + strconv.Itoa(top)
		if top > 7 {
			want = "0.." + highest
		}
		testProvenLine(t, counting(top), 3, "ok r0=0..64 r1="+want+" r2="+spanText(int64(top), int64(top))+" r3=1..1")
	}
	// It is rounds that count, not how much a claim grows in one.
	testProvenLine(t, "set r1 0; set r2 61; set r3 10; jlt r1 r2 5; end r1; add r1 r3; jmp 3", 3, "ok r0=0..64 r1=0..70 r2=61..61 r3=10..10")
	testProvenLine(t, "set r1 0; set r2 62; set r3 10; jlt r1 r2 5; end r1; add r1 r3; jmp 3", 3, "ok r0=0..64 r1=0.."+highest+" r2=62..62 r3=10..10")
}

// TestProveCountsRounds: here line 3 is changed twice in each round, on two ways back. Both changes of a round count once, and not yet in that round.
func TestProveCountsRounds(t *testing.T) {
	for top := 2; top < 20; top++ {
		want := "0.." + strconv.Itoa(top+1)
		if top > 13 {
			want = "0.." + highest
		}
		n := strconv.Itoa(top)
		program := "set r1 0; set r2 " + n + "; set r3 1; jlt r1 r2 5; end r1; add r1 r3; jlt r0 r3 3; add r1 r3; jmp 3"
		testProvenLine(t, program, 3, "ok r0=0..64 r1="+want+" r2="+n+".."+n+" r3=1..1")
	}
}

// TestProveLetsGoEachEnd: the least number, the greatest, both; of one register and of several. What does not grow stays.
func TestProveLetsGoEachEnd(t *testing.T) {
	testProve(t, "set r1 20; set r2 0; set r3 -1; jlt r2 r1 5; end r1; add r1 r3; jmp 3",
		"ok r0=0..64; ok r0=0..64 r1=20..20; ok r0=0..64 r1=20..20 r2=0..0; ok r0=0..64 r1="+lowest+"..20 r2=0..0 r3=-1..-1; ok r0=0..64 r1="+lowest+"..0 r2=0..0 r3=-1..-1; ok r0=0..64 r1=1..20 r2=0..0 r3=-1..-1; ok r0=0..64 r1=0..19 r2=0..0 r3=-1..-1")
	testProve(t, "set r1 7; set r2 0; set r3 -1; jlt r2 r1 5; end r1; add r1 r3; jmp 3",
		"ok r0=0..64; ok r0=0..64 r1=7..7; ok r0=0..64 r1=7..7 r2=0..0; ok r0=0..64 r1=0..7 r2=0..0 r3=-1..-1; ok r0=0..64 r1=0..0 r2=0..0 r3=-1..-1; ok r0=0..64 r1=1..7 r2=0..0 r3=-1..-1; ok r0=0..64 r1=0..6 r2=0..0 r3=-1..-1")
	// r1 goes up, r4 down.
	two := func(r1, r4 string) string {
		return "ok r0=0..64 r1=" + r1 + " r2=20..20 r3=1..1 r4=" + r4 + " r5=-20..-20"
	}
	testProve(t, "set r1 0; set r2 20; set r3 1; set r4 0; set r5 -20; jlt r1 r2 7; end r1; jlt r5 r4 9; end r4; add r1 r3; sub r4 r3; jmp 5",
		"ok r0=0..64; ok r0=0..64 r1=0..0; ok r0=0..64 r1=0..0 r2=20..20; ok r0=0..64 r1=0..0 r2=20..20 r3=1..1; ok r0=0..64 r1=0..0 r2=20..20 r3=1..1 r4=0..0; "+
			two("0.."+highest, lowest+"..0")+"; "+two("20.."+highest, lowest+"..0")+"; "+two("0..19", lowest+"..0")+"; "+two("0..19", lowest+"..-20")+"; "+two("0..19", "-19..0")+"; "+two("1..20", "-19..0")+"; "+two("1..20", "-20..-1"))
	// r1 goes up or down, by what r2 is.
	one := func(r1, r2 string) string {
		return "ok r0=0..64 r1=" + r1 + " r2=" + r2 + " r3=1..1 r4=20..20 r5=-20..-20"
	}
	testProve(t, "set r1 0; set r2 -1; set r3 1; set r4 20; set r5 -20; jeq r0 r3 7; set r2 1; jlt r1 r4 9; end r1; jlt r5 r1 11; end r1; add r1 r2; jmp 7",
		"ok r0=0..64; ok r0=0..64 r1=0..0; ok r0=0..64 r1=0..0 r2=-1..-1; ok r0=0..64 r1=0..0 r2=-1..-1 r3=1..1; ok r0=0..64 r1=0..0 r2=-1..-1 r3=1..1 r4=20..20; "+
			one("0..0", "-1..-1")+"; "+one("0..0", "-1..-1")+"; "+one(all, "-1..1")+"; "+one("20.."+highest, "-1..1")+"; "+one(lowest+"..19", "-1..1")+"; "+one(lowest+"..-20", "-1..1")+"; "+one("-19..19", "-1..1")+"; "+one("-20..20", "-1..1"))
}

// TestProveAtTheEndsOf64Bits: what is let go and still grows comes in again at the other end, and then nothing is known.
func TestProveAtTheEndsOf64Bits(t *testing.T) {
	testProve(t, "set r1 0; set r2 1; add r1 r2; jmp 2", "ok r0=0..64; ok r0=0..64 r1=0..0; ok r0=0..64 r1="+all+" r2=1..1; ok r0=0..64 r1="+all+" r2=1..1")
	testProve(t, "set r1 0; set r2 1; sub r1 r2; jmp 2", "ok r0=0..64; ok r0=0..64 r1=0..0; ok r0=0..64 r1="+all+" r2=1..1; ok r0=0..64 r1="+all+" r2=1..1")
	testProve(t, "add r0 r0; jmp 0", "ok r0="+all+"; ok r0="+all)
	testProve(t, "set r1 2; mul r1 r1; jmp 1", "ok r0=0..64; ok r0=0..64 r1="+all+"; ok r0=0..64 r1="+all)
	testProve(t, "set r1 1; set r2 -1; mul r1 r2; jmp 2", "ok r0=0..64; ok r0=0..64 r1=1..1; ok r0=0..64 r1=-1..1 r2=-1..-1; ok r0=0..64 r1=-1..1 r2=-1..-1")
	// From all numbers on, one end at a time is taken by a jump, and the loop gives it back.
	testProve(t, "set r1 0; load r2 r1; jlt r2 r1 4; end r2; add r2 r0; jmp 2",
		"ok r0=0..64; ok r0=0..64 r1=0..0; ok r0=0..64 r1=0..0 r2="+all+"; ok r0=0..64 r1=0..0 r2=0.."+highest+"; ok r0=0..64 r1=0..0 r2="+lowest+"..-1; ok r0=0..64 r1=0..0 r2="+lowest+"..63")
}

// TestProveCountsLineByLine: the second loop begins when the first one is done, and has as many rounds.
func TestProveCountsLineByLine(t *testing.T) {
	for top := 1; top < 12; top++ {
		want := "0.." + strconv.Itoa(top)
		if top > 7 {
			want = "0.." + highest
		}
		n := strconv.Itoa(top)
		program := "set r1 0; set r2 5; set r3 1; jlt r1 r2 8; set r1 0; set r2 " + n + "; jlt r1 r2 10; end r1; add r1 r3; jmp 3; add r1 r3; jmp 6"
		testProvenLine(t, program, 3, "ok r0=0..64 r1=0..5 r2=5..5 r3=1..1")
		testProvenLine(t, program, 6, "ok r0=0..64 r1="+want+" r2="+n+".."+n+" r3=1..1")
	}
}

// TestProveAHundredLines: 16 loops, each behind the one ahead, and what each line has.
func TestProveAHundredLines(t *testing.T) {
	program, proof := []string{"set r3 1", "set r1 0", "set r2 0"}, []string{"ok r0=0..64", "ok r0=0..64 r3=1..1", "ok r0=0..64 r1=0..0 r3=1..1"}
	r1, r2 := "0..0", "0..0"
	claim := func() string { return "ok r0=0..64 r1=" + r1 + " r2=" + r2 + " r3=1..1" }
	for loop := range 16 {
		at, top := len(program), 7+loop%2
		n := strconv.Itoa(top)
		program = append(program, "set r1 0", "set r2 "+n, "jlt r1 r2 "+strconv.Itoa(at+4), "jmp "+strconv.Itoa(at+6), "add r1 r3", "jmp "+strconv.Itoa(at+2))
		end := n
		if top > 7 {
			end = highest
		}
		proof = append(proof, claim())
		r1 = "0..0"
		proof = append(proof, claim())
		r2 = n + ".." + n
		for _, r1 = range []string{"0.." + end, n + ".." + end, "0.." + strconv.Itoa(top-1), "1.." + n} {
			proof = append(proof, claim())
		}
		r1 = n + ".." + end
	}
	testProve(t, strings.Join(append(program, "end r1"), "\n"), strings.Join(append(proof, claim()), "\n"))
}

// TestProveLongProofs: 100 lines with all registers from the least number to the greatest.
func TestProveLongProofs(t *testing.T) {
	program, proof, claim := []string{"set r1 0"}, []string{"ok r0=0..64"}, "ok r0=0..64 r1=0..0"
	for r := 2; r < api.Registers; r++ {
		program, proof = append(program, "load r"+strconv.Itoa(r)+" r1"), append(proof, claim)
		claim += " r" + strconv.Itoa(r) + "=" + all
	}
	program, proof = append(program, "load r0 r1"), append(proof, claim)
	claim = strings.Replace(claim, "r0=0..64", "r0="+all, 1)
	program, proof = append(program, "load r1 r1"), append(proof, claim)
	claim = strings.Replace(claim, "r1=0..0", "r1="+all, 1)
	for len(program) < api.MaxLines-1 {
		program, proof = append(program, "out r"+strconv.Itoa(len(program)%8)), append(proof, claim)
	}
	testProve(t, strings.Join(append(program, "end r0"), "\n"), strings.Join(append(proof, claim), "\n"))
}

// TestProveTellsTheProgramsErrorsFirst: each error of Read, with its place, ahead of a line whose needs are not met.
func TestProveTellsTheProgramsErrorsFirst(t *testing.T) {
	testNoProof(t, "", api.ErrForm, 0)
	testNoProof(t, "end", api.ErrForm, 0)
	testNoProof(t, "end r7; jmp 9; end r8", api.ErrForm, 2)
	testNoProof(t, "end r7; jmp 3; out r0", api.ErrLine, 1)
	testNoProof(t, "end r7; jlt r0 r1 2; jmp 3; jmp 4", api.ErrLine, 3)
	testNoProof(t, "end r7; out r7", api.ErrEnd, 1)
	testNoProof(t, strings.Repeat("x", api.MaxText+1), api.ErrLong, 0)
	testNoProof(t, strings.Repeat("x", api.MaxText), api.ErrForm, 0)
	testNoProof(t, strings.Repeat("end r7\n", api.MaxLines)+"end r7", api.ErrLong, 0)
	testNoProof(t, strings.Repeat("end r7\n", api.MaxLines-1)+"end r7", api.ErrClaim, 0)
	testNoProof(t, strings.Repeat("out r0\n", api.MaxLines-1)+"end r7", api.ErrClaim, 99)
}

// TestProveTellsTheFirstLine: of those whose needs are not met in the end, whenever in the rounds that came to be.
func TestProveTellsTheFirstLine(t *testing.T) {
	for _, line := range []string{"end r1", "out r1", "mov r1 r1", "add r0 r1", "add r1 r0", "div r0 r0", "div r0 r1", "in r0 r0", "in r0 r1", "get r0 r0", "put r0 r0", "put r0 r1", "load r0 r0", "keep r0 r0", "jlt r0 r1 0", "jeq r1 r0 0"} {
		testNoProof(t, line+"; end r0", api.ErrClaim, 0)
		testNoProof(t, "out r0; "+line+"; end r0", api.ErrClaim, 1)
		testProve(t, "jmp 2; "+line+"; end r0", "ok r0=0..64; -; ok r0=0..64")
	}
	// Lines 2 and 4: the way to 2 is looked at first, or that to 4.
	testNoProof(t, "set r1 1; jeq r0 r1 4; out r5; end r0; out r6; end r0", api.ErrClaim, 2)
	testNoProof(t, "set r1 1; jmp 4; out r5; end r0; jeq r0 r1 2; out r6; end r0", api.ErrClaim, 2)
	testNoProof(t, "set r1 1; jlt r0 r1 3; set r2 1; out r2; end r0", api.ErrClaim, 3)
	// Line 6 can't be met from the first round on, line 3 not until r1 is let go.
	testNoProof(t, "set r1 0; set r2 1; jeq r0 r2 6; get r3 r1; add r1 r2; jmp 3; end r7", api.ErrClaim, 3)
	testNoProof(t, "set r1 0; in r2 r1; set r3 1; add r1 r3; jmp 1", api.ErrClaim, 1)
	testNoProof(t, "set r1 0; set r2 16; set r3 1; jlt r2 r1 7; put r1 r3; add r1 r3; jmp 3; end r1", api.ErrClaim, 4)
	// Line 2's needs were met in the first round, and what followed then was joined to line 3.
	testNoProof(t, "set r1 0; set r2 8; load r3 r1; out r3; add r1 r2; jmp 2", api.ErrClaim, 2)
}

// TestProveAnswersTheSame: however often it is asked, whatever was asked between, and side by side.
func TestProveAnswersTheSame(t *testing.T) {
	r := rand.New(rand.NewSource(6))
	type answer struct {
		proof string
		e     api.Errno
		at    int
	}
	programs := []string{"", "end", "end r1", prog(counting(7)), prog(counting(8))}
	for range 40 {
		programs = append(programs, anyProgram(r), safeProgram(r), loopProgram(r, 12))
	}
	ask := func(program string) answer {
		proof, e, at := Prove(program)
		return answer{proof, e, at}
	}
	want := make([]answer, len(programs))
	for i, program := range programs {
		want[i] = ask(program)
	}
	var wait sync.WaitGroup
	for seed := range 8 {
		wait.Add(1)
		go func() {
			defer wait.Done()
			r := rand.New(rand.NewSource(int64(seed)))
			for range 500 {
				i, j := r.Intn(len(programs)), r.Intn(len(programs))
				Read(programs[j])
				Run(programs[j], "abc", 50)
				Check(programs[i], want[j].proof)
				if got := ask(programs[i]); got != want[i] {
					t.Errorf("P2: Prove(%q) = %v, and at another time %v", programs[i], want[i], got)
				}
			}
		}()
	}
	wait.Wait()
}
