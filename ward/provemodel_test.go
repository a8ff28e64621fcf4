package ward

import (
	"math/rand"
	"strconv"
	"strings"
	"testing"

	"ward/api"
)

// modelProve tells P6 a second time.
func modelProve(program string) (string, api.Errno, int) {
	if e, at := modelRead(program); e != api.OK {
		return "", e, at
	}
	list := modelClaims(program)
	lines := strings.Split(program, "\n")
	texts := make([]string, len(list))
	for i, c := range list {
		if c != nil && !modelMet(strings.Split(lines[i], " "), c) {
			return "", api.ErrClaim, i
		}
		texts[i] = c.text()
	}
	return strings.Join(texts, "\n"), api.OK, 0
}

// loopProgram has many ways back and forward, and numbers that grow slowly.
func loopProgram(r *rand.Rand, lines int) string {
	reg := func() string { return "r" + strconv.Itoa(r.Intn(5)) }
	step := func() string { return "r" + strconv.Itoa(5+r.Intn(3)) }
	out := []string{"set r5 1", "set r6 -1", "set r7 " + strconv.Itoa(r.Intn(40)), "set r1 " + strconv.Itoa(r.Intn(9)), "set r2 0", "set r3 " + strconv.Itoa(-r.Intn(9))}
	for len(out) < lines-1 {
		to := strconv.Itoa(r.Intn(lines))
		out = append(out, pick(r,
			"set "+reg()+" "+strconv.Itoa(r.Intn(30)-10),
			"mov "+reg()+" "+reg(),
			"add "+reg()+" "+step(), "sub "+reg()+" "+step(), "add "+reg()+" r5", "sub "+reg()+" r5",
			"and "+reg()+" r7", "add "+reg()+" "+reg(),
			"jlt "+reg()+" "+reg()+" "+to, "jlt "+reg()+" r7 "+to, "jlt r7 "+reg()+" "+to, "jeq "+reg()+" "+reg()+" "+to, "jeq "+reg()+" r7 "+to,
		))
	}
	out = append(out, pick(r, "end r0", "end r1", "jmp "+strconv.Itoa(6+r.Intn(lines-6))))
	return strings.Join(out, "\n")
}

// nest puts together loops in loops: each counts a register up or down to a bound.
type nest struct {
	r     *rand.Rand
	lines []string
}

func (n *nest) put(line string) { n.lines = append(n.lines, line) }

// reg is one of the registers that are counted.
func (n *nest) reg() string { return "r" + strconv.Itoa(n.r.Intn(5)) }

func (n *nest) body(depth, most int) {
	for range 1 + n.r.Intn(3) {
		switch k := n.r.Intn(6); {
		case len(n.lines) > most-10:
			return
		case k < 3 && depth > 0:
			n.loop(depth-1, most)
		case k == 3:
			n.put(pick(n.r, "jlt ", "jeq ") + n.reg() + " " + n.reg() + " " + strconv.Itoa(len(n.lines)+2))
			n.put(pick(n.r, "mov ", "mov ", "and ", "add ") + n.reg() + " " + n.reg())
		default:
			n.put(pick(n.r, "set "+n.reg()+" "+strconv.Itoa(n.r.Intn(12)-4), "mov "+n.reg()+" "+n.reg(), "out "+n.reg()))
		}
	}
}

func (n *nest) loop(depth, most int) {
	x := n.reg()
	up := n.r.Intn(3) > 0
	if n.r.Intn(2) == 0 {
		n.put("set " + x + " " + strconv.Itoa(n.r.Intn(3)))
	}
	head := len(n.lines)
	bound := strconv.Itoa(3 + n.r.Intn(8))
	if up {
		n.put("set r7 " + bound)
		n.put("jlt " + x + " r7 " + strconv.Itoa(head+3))
	} else {
		n.put("set r7 -" + bound)
		n.put("jlt r7 " + x + " " + strconv.Itoa(head+3))
	}
	n.put("jmp OUT" + strconv.Itoa(head))
	n.body(depth, most)
	n.put(map[bool]string{true: "add ", false: "sub "}[up] + x + " " + pick(n.r, "r5", "r5", "r6"))
	n.put("jmp " + strconv.Itoa(head))
	for i, line := range n.lines {
		if line == "jmp OUT"+strconv.Itoa(head) {
			n.lines[i] = "jmp " + strconv.Itoa(len(n.lines))
		}
	}
}

// nestProgram has loops in loops, in at most so many lines.
func nestProgram(r *rand.Rand, most int) string {
	n := &nest{r: r, lines: []string{"set r5 1", "set r6 2", "set r1 0", "set r2 " + strconv.Itoa(r.Intn(9)), "set r3 0", "set r4 -1"}}
	if r.Intn(10) == 0 {
		n.lines = n.lines[:5]
	}
	for len(n.lines) < most-14 {
		n.loop(2, most)
	}
	n.put(pick(r, "end r1", "end r0", "jmp 6"))
	return strings.Join(n.lines, "\n")
}

// moreThanThat: the tests of thrown-together programs tell something only if they come by all that there is to see.
func moreThanThat(t *testing.T, what string, n, least int) {
	t.Helper()
	if n < least {
		t.Errorf("too few %s to tell anything: %d", what, n)
	}
}

func TestProveAgainstTheModel(t *testing.T) {
	r := rand.New(rand.NewSource(7))
	count := map[api.Errno]int{}
	letGo, never := 0, 0
	for i := range 9000 {
		program := loopProgram(r, 8+r.Intn(16))
		switch i % 6 {
		case 0:
			program = anyProgram(r)
		case 1:
			program = safeProgram(r)
		case 2, 3, 4:
			program = nestProgram(r, 20+r.Intn(15))
		}
		want, e, at := modelProve(program)
		count[e]++
		if strings.Contains(want, ".."+highest+" ") && !strings.Contains(want, lowest) {
			letGo++
		}
		if strings.Contains("\n"+want+"\n", "\n-\n") {
			never++
		}
		if got, e2, at2 := Prove(program); got != want || e2 != e || at2 != at {
			t.Fatalf("P6: Prove(%q) = %q, %d, %d, want %q, %d, %d", program, got, e2, at2, want, e, at)
		}
	}
	moreThanThat(t, "proofs", count[api.OK], 2000)
	moreThanThat(t, "programs without one", count[api.ErrClaim], 2000)
	moreThanThat(t, "programs that are none", count[api.ErrForm]+count[api.ErrLine]+count[api.ErrEnd], 100)
	moreThanThat(t, "proofs in which a greatest number is let go", letGo, 200)
	moreThanThat(t, "proofs with lines that no run comes to", never, 500)
}

// TestProveLongProgramsAgainstTheModel: the same with 100 lines.
func TestProveLongProgramsAgainstTheModel(t *testing.T) {
	r := rand.New(rand.NewSource(8))
	proven := 0
	for range 60 {
		program := nestProgram(r, api.MaxLines)
		want, e, at := modelProve(program)
		if e == api.OK {
			proven++
		}
		if got, e2, at2 := Prove(program); got != want || e2 != e || at2 != at {
			t.Fatalf("P6: Prove(%q) = %q, %d, %d, want %q, %d, %d", program, got, e2, at2, want, e, at)
		}
	}
	moreThanThat(t, "proofs", proven, 10)
}

// TestProvenRunsGoRight: Check takes what Prove finds; then no run goes wrong, and at each line what its claim says is so.
func TestProvenRunsGoRight(t *testing.T) {
	r := rand.New(rand.NewSource(9))
	proven := 0
	for i := range 3000 {
		program := nestProgram(r, 15+r.Intn(12))
		switch i % 3 {
		case 0:
			program = safeProgram(r)
		case 1:
			program = loopProgram(r, 8+r.Intn(12))
		}
		proof, e, _ := Prove(program)
		if e != api.OK {
			continue
		}
		proven++
		if e, at := Check(program, proof); e != api.OK || at != 0 {
			t.Fatalf("P9: Check(%q) of what Prove finds, %q: %d, %d", program, proof, e, at)
		}
		claims := strings.Split(proof, "\n")
		input := strings.Repeat("\x07q\xff", r.Intn(30))
		for fuel := range 60 {
			s, _, _ := Run(program, input, fuel)
			claim, _ := modelReadClaim(claims[s.Line])
			if s.How == api.Fault || !isSo(claim, s) {
				t.Fatalf("P9: Prove(%q) = %q, but with %d bytes a run is %+v", program, proof, len(input), s)
			}
		}
	}
	moreThanThat(t, "proofs", proven, 1000)
}
