package ward

import (
	"math/big"
	"math/rand"
	"regexp"
	"strconv"
	"strings"
	"testing"

	"ward/api"
)

// What the document says of claims, told a second time, in whole numbers without an end.

type modelSpan struct{ low, high *big.Int }

// modelClaim has a span for each register that it speaks of; nil says never.
type modelClaim map[string]modelSpan

var claimForm = regexp.MustCompile(`\A(?:-|ok(?: r[0-7]=` + aNumber + `\.\.` + aNumber + `)*)\z`)

var (
	least    = new(big.Int).Neg(new(big.Int).Lsh(big.NewInt(1), 63))
	greatest = new(big.Int).Sub(new(big.Int).Lsh(big.NewInt(1), 63), big.NewInt(1))
)

func span(low, high int64) modelSpan { return modelSpan{big.NewInt(low), big.NewInt(high)} }

func fits(n *big.Int) bool { return n.Cmp(least) >= 0 && n.Cmp(greatest) <= 0 }

func lesser(a, b *big.Int) *big.Int {
	if a.Cmp(b) < 0 {
		return a
	}
	return b
}

func greater(a, b *big.Int) *big.Int {
	if a.Cmp(b) > 0 {
		return a
	}
	return b
}

func modelReadClaim(text string) (modelClaim, bool) {
	if !claimForm.MatchString(text) {
		return nil, false
	}
	if text == "-" {
		return nil, true
	}
	c, last := modelClaim{}, ""
	for _, part := range strings.Fields(text)[1:] {
		ends := strings.Split(part[3:], "..")
		low, _ := new(big.Int).SetString(ends[0], 10)
		high, _ := new(big.Int).SetString(ends[1], 10)
		if part[:2] <= last || !fits(low) || !fits(high) || low.Cmp(high) > 0 {
			return nil, false
		}
		last = part[:2]
		c[last] = modelSpan{low, high}
	}
	return c, true
}

func (c modelClaim) with(r string, s modelSpan) modelClaim {
	out := modelClaim{}
	for k, v := range c {
		out[k] = v
	}
	out[r] = s
	return out
}

func (c modelClaim) follows(from modelClaim) bool {
	if from == nil {
		return true
	}
	if c == nil {
		return false
	}
	for r, s := range c {
		f, ok := from[r]
		if !ok || f.low.Cmp(s.low) < 0 || f.high.Cmp(s.high) > 0 {
			return false
		}
	}
	return true
}

func (c modelClaim) text() string {
	if c == nil {
		return "-"
	}
	out := "ok"
	for i := range 8 {
		r := "r" + strconv.Itoa(i)
		if s, ok := c[r]; ok {
			out += " " + r + "=" + s.low.String() + ".." + s.high.String()
		}
	}
	return out
}

// hull is from the least to the greatest of these numbers, or all.
func hull(numbers ...*big.Int) modelSpan {
	out := modelSpan{numbers[0], numbers[0]}
	for _, n := range numbers {
		if !fits(n) {
			return modelSpan{least, greatest}
		}
		out = modelSpan{lesser(out.low, n), greater(out.high, n)}
	}
	return out
}

func modelReckon(word string, r, s modelSpan) modelSpan {
	do := func(f func(out, a, b *big.Int) *big.Int) func(a, b *big.Int) *big.Int {
		return func(a, b *big.Int) *big.Int { return f(new(big.Int), a, b) }
	}
	switch word {
	case "add":
		f := do((*big.Int).Add)
		return hull(f(r.low, s.low), f(r.high, s.high))
	case "sub":
		f := do((*big.Int).Sub)
		return hull(f(r.low, s.high), f(r.high, s.low))
	case "and":
		zero := new(big.Int)
		switch rs := [2]bool{r.low.Sign() >= 0, s.low.Sign() >= 0}; rs {
		case [2]bool{true, true}:
			return modelSpan{zero, lesser(r.high, s.high)}
		case [2]bool{true, false}:
			return modelSpan{zero, r.high}
		case [2]bool{false, true}:
			return modelSpan{zero, s.high}
		}
		return modelSpan{least, greatest}
	}
	f := do((*big.Int).Mul)
	if word == "div" {
		f = do((*big.Int).Quo)
	}
	return hull(f(r.low, s.low), f(r.low, s.high), f(r.high, s.low), f(r.high, s.high))
}

// modelMet tells whether a line's needs are met.
func modelMet(w []string, c modelClaim) bool {
	for _, r := range taken(w) {
		if _, ok := c[r]; !ok {
			return false
		}
	}
	places := map[string]int64{"in": 63, "get": 15, "put": 15, "load": 7, "keep": 7}
	switch w[0] {
	case "div":
		s := c[w[2]]
		return s.low.Sign() > 0 || s.high.Sign() < 0
	case "in", "get", "load":
		s := c[w[2]]
		return s.low.Sign() >= 0 && s.high.Cmp(big.NewInt(places[w[0]])) <= 0
	case "put", "keep":
		r := c[w[1]]
		return r.low.Sign() >= 0 && r.high.Cmp(big.NewInt(places[w[0]])) <= 0
	}
	return true
}

type modelExit struct {
	to    int
	claim modelClaim
}

// modelExits are the ways that are gone.
func modelExits(at int, w []string, c modelClaim) []modelExit {
	switch w[0] {
	case "end":
		return nil
	case "jmp":
		to, _ := strconv.Atoi(w[1])
		return []modelExit{{to, c}}
	case "jlt", "jeq":
		to, _ := strconv.Atoi(w[3])
		return modelTurns(at, to, w, c)
	case "set":
		n, _ := strconv.ParseInt(w[2], 10, 64)
		c = c.with(w[1], span(n, n))
	case "mov":
		c = c.with(w[1], c[w[2]])
	case "in":
		c = c.with(w[1], span(0, 255))
	case "get", "load":
		c = c.with(w[1], modelSpan{least, greatest})
	case "add", "sub", "mul", "and", "div":
		c = c.with(w[1], modelReckon(w[0], c[w[1]], c[w[2]]))
	}
	return []modelExit{{at + 1, c}}
}

func modelTurns(at, to int, w []string, c modelClaim) []modelExit {
	if w[1] == w[2] && w[0] == "jlt" {
		return []modelExit{{at + 1, c}}
	}
	if w[1] == w[2] {
		return []modelExit{{to, c}}
	}
	a, b, cc, d := c[w[1]].low, c[w[1]].high, c[w[2]].low, c[w[2]].high
	one := big.NewInt(1)
	var out []modelExit
	gone := func(to int, r, s modelSpan) {
		if r.low.Cmp(r.high) <= 0 && s.low.Cmp(s.high) <= 0 {
			out = append(out, modelExit{to, c.with(w[1], r).with(w[2], s)})
		}
	}
	if w[0] == "jlt" {
		gone(at+1, modelSpan{greater(a, cc), b}, modelSpan{cc, lesser(d, b)})
		gone(to, modelSpan{a, lesser(b, new(big.Int).Sub(d, one))}, modelSpan{greater(cc, new(big.Int).Add(a, one)), d})
		return out
	}
	if a.Cmp(b) != 0 || b.Cmp(cc) != 0 || cc.Cmp(d) != 0 {
		gone(at+1, c[w[1]], c[w[2]])
	}
	both := modelSpan{greater(a, cc), lesser(b, d)}
	gone(to, both, both)
	return out
}

func modelCheck(program, proof string) (api.Errno, int) {
	if e, at := modelRead(program); e != api.OK {
		return e, at
	}
	if len(proof) > 40000 {
		return api.ErrLong, 0
	}
	lines, texts := strings.Split(program, "\n"), strings.Split(proof, "\n")
	var list []modelClaim
	for i, text := range texts {
		c, ok := modelReadClaim(text)
		if !ok || i >= len(lines) {
			return api.ErrProof, i
		}
		list = append(list, c)
	}
	if len(list) < len(lines) {
		return api.ErrProof, len(list)
	}
	for i := range lines {
		if modelFails(lines, list, i) {
			return api.ErrClaim, i
		}
	}
	return api.OK, 0
}

func modelFails(lines []string, list []modelClaim, i int) bool {
	if i == 0 && !list[0].follows(modelClaim{"r0": span(0, 64)}) {
		return true
	}
	if list[i] == nil {
		return false
	}
	w := strings.Split(lines[i], " ")
	if !modelMet(w, list[i]) {
		return true
	}
	for _, exit := range modelExits(i, w, list[i]) {
		if !list[exit.to].follows(exit.claim) {
			return true
		}
	}
	return false
}

// modelClaims are the claims when in a round none changes, whether or not all needs are met then.
func modelClaims(program string) []modelClaim {
	lines := strings.Split(program, "\n")
	list := make([]modelClaim, len(lines))
	list[0] = modelClaim{"r0": span(0, 64)}
	// For each line the rounds in which its claim was changed.
	rounds := make([]map[int]bool, len(lines))
	for i := range rounds {
		rounds[i] = map[int]bool{}
	}
	for round := 1; ; round++ {
		changed := false
		for i, line := range lines {
			w := strings.Split(line, " ")
			if list[i] == nil || !modelMet(w, list[i]) {
				continue
			}
			for _, exit := range modelExits(i, w, list[i]) {
				if list[exit.to].follows(exit.claim) {
					continue
				}
				earlier := len(rounds[exit.to])
				if rounds[exit.to][round] {
					earlier--
				}
				list[exit.to] = list[exit.to].join(exit.claim, i >= exit.to && earlier > 6)
				rounds[exit.to][round], changed = true, true
			}
		}
		if !changed {
			return list
		}
	}
}

func (c modelClaim) join(d modelClaim, letGo bool) modelClaim {
	if c == nil {
		return d
	}
	out := modelClaim{}
	for r, s := range c {
		if t, ok := d[r]; ok {
			u := modelSpan{lesser(s.low, t.low), greater(s.high, t.high)}
			if letGo && u.low.Cmp(s.low) != 0 {
				u.low = least
			}
			if letGo && u.high.Cmp(s.high) != 0 {
				u.high = greatest
			}
			out[r] = u
		}
	}
	return out
}

// anyProof is a proof that may hold, or one that is a little beside it.
func anyProof(r *rand.Rand, program string) string {
	list := modelClaims(program)
	for range r.Intn(4) {
		i := r.Intn(len(list))
		list[i] = anyChange(r, list[i])
	}
	texts := make([]string, len(list))
	for i, c := range list {
		texts[i] = c.text()
	}
	if i := r.Intn(len(texts)); r.Intn(12) == 0 {
		at := r.Intn(len(texts[i]))
		texts[i] = texts[i][:at] + pick(r, "", " ", "0", "9", "-", ".", "r7=1..1", "\n", "\n-") + texts[i][at+1:]
	}
	if r.Intn(30) == 0 {
		texts = texts[:r.Intn(len(texts))]
	}
	return strings.Join(texts, "\n")
}

func anyChange(r *rand.Rand, c modelClaim) modelClaim {
	reg := "r" + strconv.Itoa(r.Intn(4))
	s, ok := c[reg]
	switch k := r.Intn(8); {
	case k == 0:
		return nil
	case c == nil || !ok:
		return c.with(reg, span(int64(r.Intn(3)), int64(2+r.Intn(3))))
	case k == 1:
		out := c.with(reg, s)
		delete(out, reg)
		return out
	case k == 2:
		return c.with(reg, modelSpan{least, greatest})
	case k < 6:
		t := modelSpan{new(big.Int).Sub(s.low, big.NewInt(int64(r.Intn(2)))), new(big.Int).Add(s.high, big.NewInt(int64(r.Intn(2))))}
		return c.with(reg, t)
	}
	t := modelSpan{new(big.Int).Add(s.low, big.NewInt(int64(r.Intn(2)))), new(big.Int).Sub(s.high, big.NewInt(int64(r.Intn(2))))}
	return c.with(reg, t)
}

// safeLines are pieces that can't go wrong where r1 to r3 are set.
func safeLines(r *rand.Rand) []string {
	n, place := strconv.Itoa(r.Intn(9)-4), strconv.Itoa(r.Intn(8))
	reg := func() string { return "r" + strconv.Itoa(r.Intn(4)) }
	switch r.Intn(9) {
	case 0:
		return []string{"set " + reg() + " " + n}
	case 1, 2:
		return []string{pick(r, "mov", "add", "sub", "mul", "and") + " " + reg() + " " + reg()}
	case 3:
		return []string{"set r4 " + pick(r, "1", "2", "-1", "-3"), "div " + reg() + " r4"}
	case 4:
		return []string{"set r4 " + place, pick(r, "in", "get", "load") + " " + reg() + " r4"}
	case 5:
		return []string{"set r4 " + place, pick(r, "put", "keep") + " r4 " + reg()}
	case 6:
		return []string{"set r4 7", "and r4 " + reg(), pick(r, "in", "get", "load") + " " + reg() + " r4"}
	case 7:
		return []string{"out " + reg()}
	}
	return []string{pick(r, "jlt", "jeq") + " " + reg() + " " + reg() + " TO"}
}

// safeProgram goes wrong seldom, so that many of its proofs hold.
func safeProgram(r *rand.Rand) string {
	out := []string{"set r1 " + strconv.Itoa(r.Intn(20)), "set r2 1", "set r3 -" + strconv.Itoa(1+r.Intn(9))}
	for range 2 + r.Intn(6) {
		out = append(out, safeLines(r)...)
	}
	out = append(out, pick(r, "end r0", "end r1", "jmp 3", "jmp TO"))
	for i, line := range out {
		out[i] = strings.Replace(line, "TO", strconv.Itoa(r.Intn(len(out))), 1)
	}
	return strings.Join(out, "\n")
}

func TestCheckAgainstTheModel(t *testing.T) {
	r := rand.New(rand.NewSource(3))
	count := map[api.Errno]int{}
	places := map[int]int{}
	for i := range 20000 {
		program := safeProgram(r)
		if i%4 == 0 {
			program = anyProgram(r)
		}
		proof := "ok"
		if e, _ := modelRead(program); e == api.OK {
			proof = anyProof(r, program)
		}
		e, at := modelCheck(program, proof)
		count[e]++
		if e == api.ErrClaim {
			places[at]++
		}
		if e2, at2 := Check(program, proof); e2 != e || at2 != at {
			t.Fatalf("P5: Check(%q, %q) = %d, %d, want %d, %d", program, proof, e2, at2, e, at)
		}
	}
	if count[api.OK] < 3000 || count[api.ErrClaim] < 3000 || count[api.ErrProof] < 500 || len(places) < 12 {
		t.Errorf("too few of a kind to tell anything: %v, %v", count, places)
	}
}
