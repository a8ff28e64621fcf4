package ward

import (
	"math/rand"
	"strconv"
	"strings"
	"testing"

	"ward/api"
)

// modelTrim tells P7 a second time.
func modelTrim(program, proof string) (string, api.Errno, int) {
	if e, at := modelCheck(program, proof); e != api.OK {
		return "", e, at
	}
	lines := strings.Split(program, "\n")
	for i, text := range strings.Split(proof, "\n") {
		w := strings.Split(lines[i], " ")
		c, _ := modelReadClaim(text)
		if c == nil {
			lines[i] = "jmp " + strconv.Itoa(i)
			continue
		}
		if w[0] != "jlt" && w[0] != "jeq" {
			continue
		}
		if exits := modelExits(i, w, c); len(exits) == 1 {
			lines[i] = "jmp " + strconv.Itoa(exits[0].to)
		}
	}
	return strings.Join(lines, "\n"), api.OK, 0
}

// turnProgram has many jumps of which by a claim one way is gone.
func turnProgram(r *rand.Rand) string {
	lines := 8 + r.Intn(12)
	n := func() string { return strconv.Itoa(r.Intn(7) - 3) }
	reg := func() string { return "r" + strconv.Itoa(r.Intn(4)) }
	out := []string{"set r1 " + n(), "set r2 " + n(), "set r3 " + n()}
	for len(out) < lines-1 {
		to := strconv.Itoa(len(out) + r.Intn(lines-len(out)))
		if r.Intn(6) == 0 {
			to = strconv.Itoa(r.Intn(lines))
		}
		turn := pick(r, "jlt ", "jeq ") + reg() + " " + reg() + " " + to
		out = append(out, turn)
		if len(out) < lines-1 {
			out = append(out, pick(r, "set "+reg()+" "+n(), "mov "+reg()+" "+reg(), "out "+reg(), "add "+reg()+" "+reg(), "jmp "+to))
		}
	}
	out = append(out, pick(r, "end r0", "end r1", "jmp 3"))
	return strings.Join(out, "\n")
}

// someProgram is one of all kinds.
func someProgram(r *rand.Rand) string {
	switch r.Intn(8) {
	case 0:
		return anyProgram(r)
	case 1:
		return loopProgram(r, 8+r.Intn(12))
	case 2:
		return nestProgram(r, 20+r.Intn(10))
	case 3, 4:
		return safeProgram(r)
	}
	return turnProgram(r)
}

// someProof is one that is found, or one beside it.
func someProof(r *rand.Rand, program string) string {
	if e, _ := modelRead(program); e != api.OK {
		return "ok"
	}
	if proof, e, _ := modelProve(program); e == api.OK && r.Intn(2) == 0 {
		return proof
	}
	return anyProof(r, program)
}

// TestTrimAgainstTheModel: byte by byte; and what it makes is proven by the same proof, and runs as the program does.
func TestTrimAgainstTheModel(t *testing.T) {
	r := rand.New(rand.NewSource(10))
	count := map[api.Errno]int{}
	trimmed, same := 0, 0
	for range 4000 {
		program := someProgram(r)
		proof := someProof(r, program)
		want, e, at := modelTrim(program, proof)
		count[e]++
		got, e2, at2 := Trim(program, proof)
		if got != want || e2 != e || at2 != at {
			t.Fatalf("P7: Trim(%q, %q) = %q, %d, %d, want %q, %d, %d", program, proof, got, e2, at2, want, e, at)
		}
		if e != api.OK {
			continue
		}
		if got == program {
			same++
			continue
		}
		trimmed++
		if e, at := Check(got, proof); e != api.OK || at != 0 {
			t.Fatalf("P9: %q, trimmed to %q, is not proven by %q: %d, %d", program, got, proof, e, at)
		}
		if again, _, _ := Trim(got, proof); again != got {
			t.Fatalf("P7: %q, trimmed already, becomes %q by %q", got, again, proof)
		}
		testRunsAlike(t, program, got, strings.Repeat("\x07q\xff", r.Intn(30)), 40)
	}
	moreThanThat(t, "programs that are trimmed", trimmed, 1000)
	moreThanThat(t, "programs that stay", same, 300)
	moreThanThat(t, "proofs that do not hold", count[api.ErrClaim], 500)
	moreThanThat(t, "proofs that are none", count[api.ErrProof], 60)
}
