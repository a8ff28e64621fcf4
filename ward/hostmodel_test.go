package ward

import (
	"math"
	"math/rand"
	"slices"
	"strconv"
	"strings"
	"testing"

	"ward/api"
)

// modelHost tells P8 a second time.
type modelHost struct {
	programs []string
	proofs   []string
	kept     [][]int64
}

func (h *modelHost) load(program, proof string) (int, api.Errno, int) {
	if e, at := modelCheck(program, proof); e != api.OK {
		return 0, e, at
	}
	if len(h.programs) >= 10 {
		return 0, api.ErrFull, 0
	}
	h.programs = append(h.programs, program)
	h.proofs = append(h.proofs, proof)
	h.kept = append(h.kept, make([]int64, 8))
	return len(h.programs), api.OK, 0
}

func (h *modelHost) run(id int, input string, fuel int) (api.State, api.Errno) {
	if id < 1 || id > len(h.programs) {
		return api.State{}, api.ErrNone
	}
	if fuel < 0 || fuel > 3000 {
		return api.State{}, api.ErrConf
	}
	return modelRunOn(h.kept[id-1], h.programs[id-1], input, fuel), api.OK
}

func (h *modelHost) cells(id int) ([]int64, api.Errno) {
	if id < 1 || id > len(h.programs) {
		return nil, api.ErrNone
	}
	return h.kept[id-1], api.OK
}

// keepProgram works on the cells that are kept, and goes wrong seldom.
func keepProgram(r *rand.Rand) string {
	reg := func() string { return "r" + strconv.Itoa(r.Intn(4)) }
	out := []string{"set r1 " + strconv.Itoa(r.Intn(20)), "set r2 1", "set r3 -" + strconv.Itoa(1+r.Intn(9))}
	for range 2 + r.Intn(5) {
		place := "set r4 " + strconv.Itoa(r.Intn(8))
		switch r.Intn(5) {
		case 0, 1:
			out = append(out, place, "load "+reg()+" r4", pick(r, "add ", "sub ", "mul ", "mov ")+reg()+" "+reg(), "keep r4 "+reg())
		case 2:
			out = append(out, "set r4 7", "and r4 "+reg(), pick(r, "keep r4 ", "load r3 r4\nkeep r4 ")+reg())
		case 3:
			out = append(out, pick(r, "jlt ", "jeq ")+reg()+" "+reg()+" TO")
		default:
			out = append(out, safeLines(r)...)
		}
	}
	out = strings.Split(strings.Join(out, "\n")+"\n"+pick(r, "end r0", "end r1", "jmp 3"), "\n")
	for i, line := range out {
		out[i] = strings.Replace(line, "TO", strconv.Itoa(r.Intn(len(out))), 1)
	}
	return strings.Join(out, "\n")
}

// hostTest is some hosts, each with what it should be.
type hostTest struct {
	*testing.T
	r      *rand.Rand
	hosts  []*Host
	models []*modelHost
	count  map[string]int
}

func (t *hostTest) load(i int) {
	program := keepProgram(t.r)
	if t.r.Intn(4) == 0 {
		program = someProgram(t.r)
	}
	proof := someProof(t.r, program)
	id, e, at := t.models[i].load(program, proof)
	t.count["load "+strconv.Itoa(int(e))]++
	if id2, e2, at2 := t.hosts[i].Load(program, proof); id2 != id || e2 != e || at2 != at {
		t.Fatalf("P8: Load(%q, %q) = %d, %d, %d, want %d, %d, %d", program, proof, id2, e2, at2, id, e, at)
	}
}

// run: as it should be; and nothing goes wrong, and what is claimed of the line is so, whatever was kept (P9).
func (t *hostTest) run(i int) {
	h := t.models[i]
	id, fuel, input := t.id(i), t.r.Intn(60), strings.Repeat("\x07q\xff", t.r.Intn(30))
	if t.r.Intn(12) == 0 {
		fuel = []int{-1, 3001, math.MinInt, math.MaxInt, 3000}[t.r.Intn(5)]
	}
	want, e := h.run(id, input, fuel)
	t.count["run "+strconv.Itoa(int(e))]++
	s, e2 := t.hosts[i].Run(id, input, fuel)
	if s != want || e2 != e {
		t.Fatalf("P8: Run(%d, %q, %d) = %+v, %d, want %+v, %d", id, input, fuel, s, e2, want, e)
	}
	if e != api.OK {
		return
	}
	t.count["how "+strconv.Itoa(s.How)]++
	claim, _ := modelReadClaim(strings.Split(h.proofs[id-1], "\n")[s.Line])
	if s.How == api.Fault || !isSo(claim, s) {
		t.Fatalf("P9: %q, proven by %q, is on a host %+v", h.programs[id-1], h.proofs[id-1], s)
	}
}

func (t *hostTest) cells(i int) {
	id := t.id(i)
	want, e := t.models[i].cells(id)
	list, e2 := t.hosts[i].Cells(id)
	if !slices.Equal(list, want) || e2 != e {
		t.Fatalf("P8: Cells(%d) = %v, %d, want %v, %d", id, list, e2, want, e)
	}
	if e == api.OK && slices.ContainsFunc(list, func(n int64) bool { return n != 0 }) {
		t.count["kept"]++
	}
	for k := range list {
		list[k] = 9
	}
}

// spoil puts any numbers where cells are kept.
func (t *hostTest) spoil(i int) {
	for id := range t.models[i].kept {
		for place := range api.Kept {
			n := spanEnds[t.r.Intn(len(spanEnds))]
			t.models[i].kept[id][place], t.hosts[i].programs[id].kept[place] = n, n
		}
	}
}

func (t *hostTest) id(i int) int {
	if t.r.Intn(10) == 0 {
		return []int{0, -1, 11, math.MinInt, math.MaxInt, 1 + len(t.models[i].programs)}[t.r.Intn(6)]
	}
	return 1 + t.r.Intn(max(1, len(t.models[i].programs)))
}

// TestHostsAgainstTheModel: several at a time, whatever is done with them and in whatever order.
func TestHostsAgainstTheModel(t *testing.T) {
	ht := &hostTest{T: t, r: rand.New(rand.NewSource(11)), count: map[string]int{}}
	for range 40 {
		ht.hosts, ht.models = nil, nil
		for range 3 {
			ht.hosts, ht.models = append(ht.hosts, NewHost()), append(ht.models, &modelHost{})
		}
		for range 400 {
			i := ht.r.Intn(3)
			switch k := ht.r.Intn(40); {
			case k < 5:
				ht.load(i)
			case k < 28:
				ht.run(i)
			case k < 39:
				ht.cells(i)
			default:
				ht.spoil(i)
			}
		}
	}
	for what, least := range map[string]int{"load 0": 300, "load 7": 100, "load 8": 20, "run 0": 3000, "run 9": 300, "run 5": 300, "how 0": 1000, "how 1": 1000, "kept": 1000} {
		moreThanThat(t, "answers of the kind "+what, ht.count[what], least)
	}
}

// TestTrimmedOnAHost: a trimmed program is loaded with the same proof, runs there as the program does, and keeps the same.
func TestTrimmedOnAHost(t *testing.T) {
	r := rand.New(rand.NewSource(12))
	trimmed := 0
	for range 1500 {
		program := keepProgram(r)
		if r.Intn(3) == 0 {
			program = turnProgram(r)
		}
		proof, e, _ := Prove(program)
		if e != api.OK {
			continue
		}
		short, e, _ := Trim(program, proof)
		if e != api.OK || short == program {
			continue
		}
		trimmed++
		h := NewHost()
		for id, text := range []string{program, short} {
			if got, e, at := h.Load(text, proof); got != id+1 || e != api.OK || at != 0 {
				t.Fatalf("P9: Load(%q, %q) = %d, %d, %d, want %d", text, proof, got, e, at, id+1)
			}
		}
		for range 12 {
			input, fuel := strings.Repeat("\x07q\xff", r.Intn(30)), r.Intn(50)
			a, _ := h.Run(1, input, fuel)
			b, _ := h.Run(2, input, fuel)
			first, _ := h.Cells(1)
			second, _ := h.Cells(2)
			if a != b || !slices.Equal(first, second) {
				t.Fatalf("P9: %q on a host: %+v, %v; trimmed (%q): %+v, %v", program, a, first, short, b, second)
			}
		}
	}
	moreThanThat(t, "programs that are trimmed", trimmed, 200)
}
