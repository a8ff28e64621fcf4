package ward

import (
	"math/rand"
	"regexp"
	"strconv"
	"strings"
	"testing"

	"ward/api"
)

// The document's tables told a second time, as plainly as can be, for programs thrown together to be held against.

const (
	aRegister = `r[0-7]`
	aNumber   = `(?:0|-?[1-9][0-9]*)`
	aLine     = `(?:0|[1-9][0-9]*)`
)

var lineForm = regexp.MustCompile(`\A(?:set ` + aRegister + ` (` + aNumber + `)` +
	`|(?:mov|add|sub|mul|and|div|in|get|put|load|keep) ` + aRegister + ` ` + aRegister +
	`|(?:out|end) ` + aRegister +
	`|(?:jmp|(?:jlt|jeq) ` + aRegister + ` ` + aRegister + `) (` + aLine + `))\z`)

func modelRead(program string) (api.Errno, int) {
	lines := strings.Split(program, "\n")
	if len(program) > 8000 || len(lines) > 100 {
		return api.ErrLong, 0
	}
	lost := -1
	for i, line := range lines {
		m := lineForm.FindStringSubmatch(line)
		if m == nil {
			return api.ErrForm, i
		}
		if n, err := strconv.ParseInt(m[1], 10, 64); m[1] != "" && (err != nil || n < -1e9 || n > 1e9) {
			return api.ErrForm, i
		}
		n, err := strconv.ParseInt(m[2], 10, 64)
		if m[2] != "" && err != nil {
			return api.ErrForm, i
		}
		if n >= int64(len(lines)) && lost < 0 {
			lost = i
		}
	}
	last := len(lines) - 1
	if lost >= 0 {
		return api.ErrLine, lost
	}
	if w := lines[last][:3]; w != "jmp" && w != "end" {
		return api.ErrEnd, last
	}
	return api.OK, 0
}

type model struct {
	s     api.State
	input [64]int64
	cells map[string][]int64
	out   []string
}

func modelRun(program, input string, fuel int) api.State {
	return modelRunOn(make([]int64, 8), program, input, fuel)
}

// modelRunOn begins with these cells as the ones that are kept, and leaves them as the run did.
func modelRunOn(kept []int64, program, input string, fuel int) api.State {
	m := &model{cells: map[string][]int64{"get": make([]int64, 16), "load": kept}}
	for i := 0; i < len(input) && i < 64; i++ {
		m.input[i] = int64(input[i])
		m.s.Regs[0].N++
	}
	m.s.Regs[0].Set = true
	m.cells["in"] = m.input[:]
	m.cells["put"], m.cells["keep"] = m.cells["get"], m.cells["load"]
	lines := strings.Split(program, "\n")
	for ; fuel > 0 && m.s.How == api.Stopped; fuel-- {
		m.line(strings.Split(lines[m.s.Line], " "))
	}
	m.s.Out = strings.Join(m.out, " ")
	return m.s
}

// taken are the registers that a line takes.
func taken(w []string) []string {
	switch w[0] {
	case "set", "jmp":
		return nil
	case "mov", "in", "get", "load":
		return w[2:3]
	case "out", "end":
		return w[1:2]
	}
	return w[1:3]
}

func (m *model) line(w []string) {
	for _, r := range taken(w) {
		if !m.s.Regs[r[1]-'0'].Set {
			m.s.How, m.s.Why = api.Fault, api.Unset
			return
		}
	}
	var r, s *api.Register
	if w[0] != "jmp" {
		r = &m.s.Regs[w[1][1]-'0']
	}
	if len(w) > 2 && w[2][0] == 'r' {
		s = &m.s.Regs[w[2][1]-'0']
	}
	next := m.s.Line + 1
	switch w[0] {
	case "set":
		n, _ := strconv.ParseInt(w[2], 10, 64)
		*r = api.Register{Set: true, N: n}
	case "mov":
		*r = *s
	case "div":
		if s.N == 0 {
			m.s.How, m.s.Why = api.Fault, api.Nought
			return
		}
		r.N = reckoned(w[0], r.N, s.N)
	case "add", "sub", "mul", "and":
		r.N = reckoned(w[0], r.N, s.N)
	case "in", "get", "load", "put", "keep":
		if !m.cell(w[0], r, s) {
			return
		}
	case "out":
		m.out = append(m.out, strconv.FormatInt(r.N, 10))
	case "end":
		m.s.How, m.s.Value = api.Ended, r.N
		return
	case "jmp":
		next, _ = strconv.Atoi(w[1])
	case "jlt", "jeq":
		if w[0] == "jlt" && r.N < s.N || w[0] == "jeq" && r.N == s.N {
			next, _ = strconv.Atoi(w[3])
		}
	}
	m.s.Line = next
}

func (m *model) cell(word string, r, s *api.Register) bool {
	cells, puts := m.cells[word], word == "put" || word == "keep"
	place := s.N
	if puts {
		place = r.N
	}
	if place < 0 || place >= int64(len(cells)) {
		m.s.How, m.s.Why = api.Fault, api.Place
		return false
	}
	if puts {
		cells[place] = s.N
	} else {
		*r = api.Register{Set: true, N: cells[place]}
	}
	return true
}

func pick(r *rand.Rand, l ...string) string { return l[r.Intn(len(l))] }

// anyLine is a line of a program, seldom one with a small fault.
func anyLine(r *rand.Rand, lines int) string {
	reg := func() string { return "r" + strconv.Itoa(r.Intn(4)) }
	to := strconv.Itoa(r.Intn(lines))
	var line string
	switch r.Intn(8) {
	case 0, 1:
		line = "set " + reg() + " " + pick(r, "0", "1", "7", "8", "15", "16", "63", "64", "-1", "1000000000", "-1000000000", "2")
	case 2, 3:
		line = pick(r, "mov", "add", "sub", "mul", "and", "div") + " " + reg() + " " + reg()
	case 4, 5:
		line = pick(r, "in", "get", "put", "load", "keep") + " " + reg() + " " + reg()
	case 6:
		line = pick(r, "out "+reg(), "jmp "+to, "end "+reg(), "out "+reg())
	case 7:
		line = pick(r, "jlt", "jeq") + " " + reg() + " " + reg() + " " + to
	}
	if r.Intn(150) == 0 {
		at := r.Intn(len(line))
		line = line[:at] + pick(r, "", " ", "0", "9", "-", "r", "x", "\n") + line[at+1:]
	}
	return line
}

// anyProgram begins with most registers set, so that runs come further than their first lines.
func anyProgram(r *rand.Rand) string {
	lines := 4 + r.Intn(16)
	out := []string{"set r1 " + strconv.Itoa(r.Intn(20)), "set r2 1", "set r3 -" + strconv.Itoa(1+r.Intn(9))}[r.Intn(4):]
	for len(out) < lines {
		out = append(out, anyLine(r, lines))
	}
	if r.Intn(20) > 0 {
		out[lines-1] = pick(r, "end r0", "end r1", "jmp 0", "jmp 3")
	}
	return strings.Join(out, "\n")
}

func TestAgainstTheModel(t *testing.T) {
	r := rand.New(rand.NewSource(2))
	hows := [3]int{}
	for range 20000 {
		program, input, fuel := anyProgram(r), strings.Repeat("q\xff", r.Intn(40)), r.Intn(200)
		e, at := modelRead(program)
		if e2, at2 := Read(program); e2 != e || at2 != at {
			t.Fatalf("P3: Read(%q) = %d, %d, want %d, %d", program, e2, at2, e, at)
		}
		var want api.State
		if e == api.OK {
			want = modelRun(program, input, fuel)
			hows[want.How]++
		}
		if s, e2, at2 := Run(program, input, fuel); s != want || e2 != e || at2 != at {
			t.Fatalf("P4: Run(%q, %q, %d) = %+v, %d, %d, want %+v, %d, %d", program, input, fuel, s, e2, at2, want, e, at)
		}
	}
	for how, n := range hows {
		if n < 500 {
			t.Errorf("too few runs end as %d to tell anything: %d", how, n)
		}
	}
}
