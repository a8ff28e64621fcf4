package ward

import (
	"math/rand"
	"runtime"
	"strings"
	"sync"
	"testing"

	"ward/api"
)

const all = "-9223372036854775808..9223372036854775807"

func testCheck(t *testing.T, program, proof string, want api.Errno, to int) {
	t.Helper()
	if e, at := Check(prog(program), prog(proof)); e != want || at != to {
		t.Errorf("P5: Check(%.200q, %.200q) = %d, %d, want %d, %d", program, proof, e, at, want, to)
	}
}

func TestCheckExamples(t *testing.T) {
	const masked = "set r1 63; and r1 r0; in r2 r1; end r2"
	testCheck(t, masked, "ok r0=0..64; ok r0=0..64 r1=63..63; ok r0=0..64 r1=0..63; ok r0=0..64 r1=0..63 r2=0..255", api.OK, 0)
	testCheck(t, masked, "ok r0=0..64; ok r0=0..64 r1=63..63; ok r1=0..63; ok r2=0..255", api.OK, 0)
	testCheck(t, masked, "ok r0=0..64; ok r0=0..64 r1=63..63; ok r0=0..64 r1=0..64; ok r2=0..255", api.ErrClaim, 2)
	testCheck(t, masked, "ok r0=0..64; ok r0=0..64 r1=62..62; ok r1=0..63; ok r2=0..255", api.ErrClaim, 0)
	testCheck(t, masked, "ok r0=0..64; ok r1=63..63; ok r1=0..63; ok r2=0..255", api.ErrClaim, 1)

	const filling = "set r1 0; set r2 16; set r3 1; jlt r1 r2 5; end r1; put r1 r3; add r1 r3; jmp 3"
	head := "ok r0=0..64; ok r0=0..64 r1=0..0; ok r0=0..64 r1=0..0 r2=16..16; "
	const rest = " r2=16..16 r3=1..1"
	loop := func(at3, at4, at5, at6, at7 string) string {
		return head + "ok r0=0..64 r1=" + at3 + rest + "; ok r0=0..64 r1=" + at4 + rest + "; ok r0=0..64 r1=" + at5 + rest + "; ok r0=0..64 r1=" + at6 + rest + "; ok r0=0..64 r1=" + at7 + rest
	}
	testCheck(t, filling, loop("0..9223372036854775807", "16..9223372036854775807", "0..15", "0..15", "1..16"), api.OK, 0)
	testCheck(t, filling, loop("0..16", "16..16", "0..15", "0..15", "1..16"), api.OK, 0)
	testCheck(t, filling, loop("0..15", "16..16", "0..15", "0..15", "1..16"), api.ErrClaim, 7)
	testCheck(t, filling, loop("0..16", "16..16", "0..14", "0..15", "1..16"), api.ErrClaim, 3)
	testCheck(t, filling, loop("0..16", "16..16", "0..16", "0..16", "1..17"), api.ErrClaim, 5)

	const alike = "jeq r0 r0 2; end r7; end r0"
	testCheck(t, alike, "ok; -; ok r0=0..64", api.ErrClaim, 0)
	testCheck(t, alike, "ok r0=0..64; -; ok r0=0..100", api.OK, 0)
	testCheck(t, alike, "ok r0=0..64; ok; ok r0=0..100", api.ErrClaim, 1)
	// Example 1 has no proof: what is so of line 2 does not do.
	const unsafe = "set r1 5; add r1 r0; in r2 r1; end r2"
	testCheck(t, unsafe, "ok r0=0..64; ok r0=0..64 r1=5..5; ok r0=0..64 r1=5..69; ok r2=0..255", api.ErrClaim, 2)
	testCheck(t, unsafe, "ok r0=0..64; ok r0=0..64 r1=5..5; ok r0=0..64 r1=5..63; ok r2=0..255", api.ErrClaim, 1)
	testCheck(t, unsafe, "ok r0=0..64; ok r0=0..64 r1=5..5; -; -", api.ErrClaim, 1)
}

func TestCheckTellsTheProgramsErrorsFirst(t *testing.T) {
	for _, proof := range []string{"", "ok r0=0..64", "-", "x", strings.Repeat("x", api.MaxProof+1)} {
		testCheck(t, strings.Repeat(" ", api.MaxText+1), proof, api.ErrLong, 0)
		testCheck(t, strings.Repeat("out r0\n", api.MaxLines)+"end r0", proof, api.ErrLong, 0)
		testCheck(t, "end r0; end", proof, api.ErrForm, 1)
		testCheck(t, "end r0; end r0; jmp 3", proof, api.ErrLine, 2)
		testCheck(t, "end r0; out r0", proof, api.ErrEnd, 1)
	}
}

// TestCheckCountsBytes: no proof that holds has 40000 bytes; just below the limit it is its lines that are wrong.
func TestCheckCountsBytes(t *testing.T) {
	const p = "out r0; end r0"
	const good = "ok r0=0..64\nok r0=0..64\n"
	testCheck(t, p, strings.Repeat("x", api.MaxProof), api.ErrProof, 0)
	testCheck(t, p, strings.Repeat("x", api.MaxProof+1), api.ErrLong, 0)
	testCheck(t, p, strings.Repeat("\n", api.MaxProof), api.ErrProof, 0)
	testCheck(t, p, strings.Repeat("\n", api.MaxProof+1), api.ErrLong, 0)
	testCheck(t, p, strings.Repeat("-\n", api.MaxProof/2), api.ErrProof, 2)
	testCheck(t, p, strings.Repeat("-\n", api.MaxProof/2)+"-", api.ErrLong, 0)
	testCheck(t, p, good+strings.Repeat("x", api.MaxProof-len(good)), api.ErrProof, 2)
	testCheck(t, p, good+strings.Repeat("x", api.MaxProof-len(good)+1), api.ErrLong, 0)
	testCheck(t, p, "ok r0=0..64\n"+strings.Repeat("x", api.MaxProof-12), api.ErrProof, 1)
	testCheck(t, p, strings.Repeat("é", api.MaxProof/2), api.ErrProof, 0)
	testCheck(t, p, strings.Repeat("é", api.MaxProof/2)+"x", api.ErrLong, 0)

	// The longest claims that there are, in as many lines as may be.
	widest := "ok"
	for r := range api.Registers {
		widest += " r" + string(rune('0'+r)) + "=-9223372036854775808..-9223372036854775807"
	}
	program := "jmp 99\n" + strings.Repeat("out r7\n", api.MaxLines-2) + "end r0"
	proof := "ok r0=0..64\n" + strings.Repeat(widest+"\n", api.MaxLines-3) + "ok r7=" + all + "\nok r0=" + all
	testCheck(t, program, proof, api.ErrClaim, 98)
	testCheck(t, program, strings.Replace(proof, "ok r7="+all, "ok r0="+all+" r7="+all, 1), api.OK, 0)
}

// TestCheckCountsLines: a line too few, a line too many.
func TestCheckCountsLines(t *testing.T) {
	const p = "out r0; out r0; end r0"
	const l = "ok r0=0..64"
	testCheck(t, p, l+"; "+l+"; "+l, api.OK, 0)
	testCheck(t, p, l+"; "+l, api.ErrProof, 2)
	testCheck(t, p, l, api.ErrProof, 1)
	testCheck(t, p, "", api.ErrProof, 0)
	testCheck(t, p, "\n\n", api.ErrProof, 0)
	testCheck(t, p, l+"; "+l+"; "+l+"\n", api.ErrProof, 3)
	testCheck(t, p, l+"; "+l+"; "+l+"; "+l, api.ErrProof, 3)
	testCheck(t, p, l+"; "+l+"; "+l+"; x; "+l, api.ErrProof, 3)
	testCheck(t, p, l+"; "+l+"\n", api.ErrProof, 2)
	testCheck(t, p, "\n"+l+"; "+l, api.ErrProof, 0)
	// What is none of a proof's lines comes ahead of how many there are.
	testCheck(t, p, l+"; x", api.ErrProof, 1)
	testCheck(t, p, "x", api.ErrProof, 0)
	testCheck(t, p, l+"; x; "+l+"; "+l, api.ErrProof, 1)
	testCheck(t, p, l+"; x; y; "+l, api.ErrProof, 1)
	// And how many there are ahead of what they claim.
	testCheck(t, p, "-; -", api.ErrProof, 2)
	testCheck(t, p, "-; -; -; -", api.ErrProof, 3)
	testCheck(t, p, "-; -; x", api.ErrProof, 2)

	long := strings.Repeat("out r0\n", api.MaxLines-1) + "end r0"
	good := strings.Repeat(l+"\n", api.MaxLines-1) + l
	testCheck(t, long, good, api.OK, 0)
	testCheck(t, long, good+"\n"+l, api.ErrProof, 100)
	testCheck(t, long, strings.TrimSuffix(good, "\n"+l), api.ErrProof, 99)
}

func TestCheckKnowsClaims(t *testing.T) {
	const p = "out r0; jmp 1"
	for _, claim := range []string{
		"ok", "ok r0=0..64", "ok r0=0..0 r1=0..0 r2=0..0 r3=0..0 r4=0..0 r5=0..0 r6=0..0 r7=0..0", "ok r7=-1..1", "ok r2=-5..-3 r5=10..200", "ok r0=" + all,
		"ok r3=9223372036854775807..9223372036854775807", "ok r3=-9223372036854775808..-9223372036854775808", "-",
	} {
		e, at := Check(prog(p), "ok r0=0..64\n"+claim)
		if e != api.OK && (e != api.ErrClaim || at != 0) {
			t.Errorf("P5: the claim %q is none: %d, %d", claim, e, at)
		}
	}
	for _, claim := range []string{
		"", " ", "OK", "o", "okay", "ok ", " ok", "ok\t", "ok\r", "ok\x00", "--", "- ", " -", "-\r", "- r0=0..1", "-ok", "ok -", "never", "okr0=0..1", "r0=0..1",
		"ok  r0=0..1", "ok r0=0..1 ", "ok r0=0..1  r1=0..1", "ok r0 =0..1", "ok r0= 0..1", "ok r0=0 ..1", "ok r0=0.. 1", "ok r0=0..1\r", "ok\tr0=0..1", "ok,r0=0..1",
		"ok r0", "ok r0=", "ok r0=..", "ok r0=1", "ok r0=1..", "ok r0=..1", "ok =0..1", "ok 0..1", "ok r0=0.1", "ok r0=0...1", "ok r0=0....1", "ok r0=0..1..2", "ok r0==0..1", "ok r0:0..1", "ok r0=0-1", "ok r0=0..1=", "ok r0=r1..1",
		"ok r8=0..1", "ok r9=0..1", "ok r=0..1", "ok R0=0..1", "ok r00=0..1", "ok r-1=0..1", "ok r10=0..1", "ok s0=0..1",
		"ok r0=1..0", "ok r0=0..-1", "ok r0=-1..-2", "ok r0=9223372036854775807..-9223372036854775808", "ok r0=0..0 r1=1..0",
		"ok r0=0..1 r0=0..1", "ok r1=0..1 r0=0..1", "ok r0=0..1 r2=0..1 r1=0..1", "ok r0=0..1 r2=0..1 r2=0..1", "ok r7=0..1 r0=0..1",
		"ok r0=00..1", "ok r0=-0..1", "ok r0=0..-0", "ok r0=01..1", "ok r0=0..01", "ok r0=+0..1", "ok r0=0..+1", "ok r0=0..1e1", "ok r0=0x0..1", "ok r0=--1..1", "ok r0=0..1_0", "ok r0=0..٣", "ok r0=-..1",
		"ok r0=0..9223372036854775808", "ok r0=-9223372036854775809..0", "ok r0=-99999999999999999999..0", "ok r0=0..18446744073709551616", "ok r0=0..18446744073709551617",
	} {
		for at, proof := range []string{claim + "\n-", "-\n" + claim} {
			testCheck(t, p, proof, api.ErrProof, at)
		}
		testCheck(t, p, claim+"\n"+claim, api.ErrProof, 0)
	}
}

// TestCheckLineZero: it begins with r0 from 0 to 64, and nothing else.
func TestCheckLineZero(t *testing.T) {
	for _, c := range []struct {
		claim string
		e     api.Errno
	}{
		{"ok", api.OK}, {"ok r0=0..64", api.OK}, {"ok r0=-1..64", api.OK}, {"ok r0=0..65", api.OK}, {"ok r0=" + all, api.OK},
		{"-", api.ErrClaim}, {"ok r0=1..64", api.ErrClaim}, {"ok r0=0..63", api.ErrClaim}, {"ok r0=0..0", api.ErrClaim}, {"ok r0=64..64", api.ErrClaim},
		{"ok r0=0..64 r1=0..0", api.ErrClaim}, {"ok r1=" + all, api.ErrClaim}, {"ok r7=" + all, api.ErrClaim}, {"ok r0=65..99", api.ErrClaim},
	} {
		testCheck(t, "jmp 1; jmp 1", c.claim+"; ok", c.e, 0)
	}
	// Ways back to line 0 count, too.
	testCheck(t, "set r0 65; jmp 0", "ok r0=0..64; ok r0=65..65", api.ErrClaim, 1)
	testCheck(t, "set r0 65; jmp 0", "ok r0=0..65; ok r0=65..65", api.OK, 0)
	testCheck(t, "jmp 0", "ok r0=0..64", api.OK, 0)
	testCheck(t, "jmp 0", "-", api.ErrClaim, 0)
	testCheck(t, "end r0", "ok r0=0..64", api.OK, 0)
	testCheck(t, "end r0", "ok", api.ErrClaim, 0)
	testCheck(t, "end r1", "ok r0=0..64", api.ErrClaim, 0)
}

// TestCheckFollows: when a claim follows from what follows, here from r1=-3..5 r2=7..7.
func TestCheckFollows(t *testing.T) {
	const program = "jmp 3; out r1; jmp 2; end r0"
	for _, c := range []struct {
		claim string
		ok    bool
	}{
		{"ok", true}, {"ok r1=-3..5 r2=7..7", true}, {"ok r1=-3..5", true}, {"ok r2=7..7", true}, {"ok r1=-4..5", true}, {"ok r1=-3..6 r2=6..8", true}, {"ok r1=" + all + " r2=" + all, true},
		{"-", false}, {"ok r1=-2..5", false}, {"ok r1=-3..4", false}, {"ok r1=-3..5 r2=8..8", false}, {"ok r1=-3..5 r2=6..6", false}, {"ok r3=" + all, false}, {"ok r0=" + all, false}, {"ok r1=-3..5 r2=7..7 r7=0..0", false}, {"ok r1=6..9", false}, {"ok r1=-9..-4", false},
	} {
		e, at := api.OK, 0
		if !c.ok {
			e, at = api.ErrClaim, 1
		}
		testCheck(t, program, "ok r0=0..64; ok r1=-3..5 r2=7..7; "+c.claim+"; ok r0=0..64", e, at)
	}
	// What says never fails nowhere, whatever the line needs and whatever stands behind it.
	testCheck(t, "jmp 3; div r1 r2; end r5; end r0", "ok r0=0..64; -; -; ok r0=0..64", api.OK, 0)
	testCheck(t, "jmp 3; div r1 r2; end r5; end r0", "ok r0=0..64; -; ok r5=0..0; ok r0=0..64", api.OK, 0)
	testCheck(t, "jmp 3; div r1 r2; end r5; end r0", "ok r0=0..64; -; ok; ok r0=0..64", api.ErrClaim, 2)
	testCheck(t, "jmp 3; out r1; end r5; end r0", "ok r0=0..64; ok r1=0..0; -; ok r0=0..64", api.ErrClaim, 1)
}

// TestCheckTellsTheFirstThatFails: of several lines, however they are looked at, and however often.
func TestCheckTellsTheFirstThatFails(t *testing.T) {
	r := rand.New(rand.NewSource(4))
	program := strings.Repeat("end r0\n", api.MaxLines-1) + "end r0"
	for first := range api.MaxLines {
		claims := make([]string, api.MaxLines)
		for i := range claims {
			claims[i] = "ok r0=0..64"
			if i == first || i > first && r.Intn(2) == 0 {
				claims[i] = "ok"
			}
		}
		for range 20 {
			testCheck(t, program, strings.Join(claims, "\n"), api.ErrClaim, first)
		}
	}
}

// TestCheckUnderSchedules: the same answer with one thread and with many, and with many calls at a time.
func TestCheckUnderSchedules(t *testing.T) {
	defer runtime.GOMAXPROCS(runtime.GOMAXPROCS(0))
	program := strings.Repeat("out r0\n", api.MaxLines-1) + "end r0"
	good := strings.Repeat("ok r0=0..64\n", api.MaxLines-1) + "ok r0=0..64"
	for _, threads := range []int{1, 2, 8} {
		runtime.GOMAXPROCS(threads)
		var wait sync.WaitGroup
		for first := range 24 {
			wait.Add(1)
			go func() {
				defer wait.Done()
				bad := strings.Repeat("ok r0=0..64\n", first+1) + strings.Repeat("ok\n", api.MaxLines-first-2) + "ok"
				for range 10 {
					testCheck(t, program, good, api.OK, 0)
					testCheck(t, program, bad, api.ErrClaim, first+1)
				}
			}()
		}
		wait.Wait()
	}
}
