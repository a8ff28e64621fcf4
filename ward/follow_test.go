package ward

import (
	"math"
	"math/big"
	"math/rand"
	"strconv"
	"strings"
	"testing"

	"ward/api"
)

// spanEnds are near the ends of 64 bits, near 0, and where products begin to be too great.
var spanEnds = []int64{math.MinInt64, math.MinInt64 + 1, -3037000500, -2, -1, 0, 1, 2, 3037000500, math.MaxInt64 - 1, math.MaxInt64}

func spanText(low, high int64) string {
	return strconv.FormatInt(low, 10) + ".." + strconv.FormatInt(high, 10)
}

// testBehind: line 1, which no line leads to, makes r1 just this span.
func testBehind(t *testing.T, line, claim string, want modelSpan) {
	t.Helper()
	program := "jmp 3; " + line + "; end r1; end r0"
	proof := func(low, high *big.Int) string {
		return "ok r0=0..64; ok " + claim + "; ok r1=" + low.String() + ".." + high.String() + "; ok r0=0..64"
	}
	one := big.NewInt(1)
	testCheck(t, program, proof(want.low, want.high), api.OK, 0)
	testCheck(t, program, proof(least, greatest), api.OK, 0)
	if want.low.Cmp(want.high) < 0 {
		testCheck(t, program, proof(new(big.Int).Add(want.low, one), want.high), api.ErrClaim, 1)
		testCheck(t, program, proof(want.low, new(big.Int).Sub(want.high, one)), api.ErrClaim, 1)
	} else if want.low.Cmp(greatest) < 0 {
		testCheck(t, program, proof(new(big.Int).Add(want.low, one), greatest), api.ErrClaim, 1)
	}
}

func TestCheckSpansAtTheEnds(t *testing.T) {
	for _, word := range []string{"add", "sub", "mul", "and", "div"} {
		for i := range len(spanEnds) * len(spanEnds) * len(spanEnds) * len(spanEnds) {
			n := len(spanEnds)
			a, b, c, d := spanEnds[i%n], spanEnds[i/n%n], spanEnds[i/n/n%n], spanEnds[i/n/n/n]
			if a > b || c > d || word == "div" && c <= 0 && d >= 0 {
				continue
			}
			testBehind(t, word+" r1 r2", "r1="+spanText(a, b)+" r2="+spanText(c, d), modelReckon(word, span(a, b), span(c, d)))
		}
	}
}

// TestCheckSpansInFigures: the same, told outright.
func TestCheckSpansInFigures(t *testing.T) {
	const max, min = math.MaxInt64, math.MinInt64
	for _, c := range []struct {
		word       string
		a, b, c, d int64
		low, high  int64
	}{
		{"add", 1, 2, -5, 9, -4, 11}, {"add", max - 1, max - 1, 1, 1, max, max}, {"add", max, max, 1, 1, min, max}, {"add", 0, max, 0, 1, min, max}, {"add", min, 0, 0, 0, min, 0}, {"add", min, 0, -1, 0, min, max}, {"add", min, 5, 0, max, min, max}, {"add", min, 0, 1, max, min + 1, max},
		{"sub", 1, 2, -5, 9, -8, 7}, {"sub", 0, 0, min, min, min, max}, {"sub", -1, -1, min, min, max, max}, {"sub", min, 0, 1, 1, min, max}, {"sub", min + 1, 0, 1, 1, min, -1}, {"sub", -1, 0, min, 0, min, max}, {"sub", min, -1, 0, 0, min, -1},
		{"mul", -3, 2, -5, 9, -27, 18}, {"mul", -3, -2, -5, -4, 8, 15}, {"mul", 0, 0, min, max, 0, 0}, {"mul", min, max, 0, 0, 0, 0}, {"mul", min, min, 1, 1, min, min}, {"mul", min, min, -1, -1, min, max}, {"mul", -1, -1, min, min, min, max}, {"mul", -1, -1, min + 1, max, -max, max}, {"mul", 1 << 31, 1 << 31, 1 << 31, 1 << 31, 1 << 62, 1 << 62}, {"mul", 1 << 32, 1 << 32, 1 << 31, 1 << 31, min, max}, {"mul", -1 << 32, -1 << 32, 1 << 31, 1 << 31, min, min}, {"mul", 1 << 32, 1 << 32, 1 << 32, 1 << 32, min, max}, {"mul", 0, 1 << 33, 0, 1 << 33, min, max},
		{"div", -7, 20, 2, 3, -3, 10}, {"div", -7, 20, -3, -2, -10, 3}, {"div", 5, 7, 1, 9, 0, 7}, {"div", 0, 0, 1, max, 0, 0}, {"div", min, min, -1, -1, min, max}, {"div", min + 1, 0, -1, -1, 0, max}, {"div", min, 0, -9, -1, min, max}, {"div", min, 0, -9, -2, 0, 1 << 62}, {"div", min, max, 1, 1, min, max}, {"div", min, min, 1, 1, min, min}, {"div", min, 5, min, -2, -2, 1 << 62}, {"div", -1, 1, max, max, 0, 0},
		{"and", 0, 12, 3, 10, 0, 10}, {"and", 5, 5, 5, 5, 0, 5}, {"and", 5, 9, -1, -1, 0, 9}, {"and", -1, -1, 5, 9, 0, 9}, {"and", -1, 12, -3, 10, min, max}, {"and", -1, -1, -1, -1, min, max}, {"and", 0, max, 0, max, 0, max}, {"and", 0, 0, min, max, 0, 0}, {"and", min, max, 0, 3, 0, 3},
	} {
		testBehind(t, c.word+" r1 r2", "r1="+spanText(c.a, c.b)+" r2="+spanText(c.c, c.d), span(c.low, c.high))
	}
}

func TestCheckBehindTheOtherWords(t *testing.T) {
	testBehind(t, "set r1 -5", "r2=0..0", span(-5, -5))
	testBehind(t, "set r1 1000000000", "r1=3..4", span(1000000000, 1000000000))
	testBehind(t, "mov r1 r2", "r2=-3..8", span(-3, 8))
	testBehind(t, "mov r1 r2", "r1=0..1 r2="+all, modelSpan{least, greatest})
	testBehind(t, "mov r1 r1", "r1=4..7", span(4, 7))
	testBehind(t, "in r1 r2", "r2=0..0", span(0, 255))
	testBehind(t, "in r1 r1", "r1=63..63", span(0, 255))
	testBehind(t, "get r1 r2", "r2=3..3", modelSpan{least, greatest})
	testBehind(t, "get r1 r1", "r1=0..15", modelSpan{least, greatest})
	testBehind(t, "load r1 r2", "r2=3..3", modelSpan{least, greatest})
	testBehind(t, "load r1 r1", "r1=0..7", modelSpan{least, greatest})
	for _, line := range []string{"out r1", "put r1 r1", "put r1 r2", "put r2 r1", "keep r1 r1", "keep r1 r2", "keep r2 r1", "set r2 9", "mov r2 r1", "in r2 r1", "get r2 r1", "load r2 r1", "add r2 r1", "div r2 r1", "jmp 2"} {
		testBehind(t, line, "r1=2..5 r2=0..1", span(2, 5))
	}
	// R and S the same register: they are still taken one by one.
	testBehind(t, "add r1 r1", "r1=-2..5", span(-4, 10))
	testBehind(t, "sub r1 r1", "r1=-2..5", span(-7, 7))
	testBehind(t, "mul r1 r1", "r1=-2..5", span(-10, 25))
	testBehind(t, "and r1 r1", "r1=2..5", span(0, 5))
	testBehind(t, "div r1 r1", "r1=2..5", span(0, 2))
	testBehind(t, "div r1 r1", "r1=-9..-3", span(0, 3))
	testBehind(t, "sub r1 r1", "r1="+all, modelSpan{least, greatest})
}

// TestCheckNeeds: line 1, which no line leads to, stands or falls with its claim alone.
func TestCheckNeeds(t *testing.T) {
	need := func(line, claim string, met bool) {
		t.Helper()
		e, at := api.OK, 0
		if !met {
			e, at = api.ErrClaim, 1
		}
		testCheck(t, "jmp 3; "+line+"; jmp 2; end r0", strings.TrimSuffix("ok r0=0..64; ok "+claim, " ")+"; ok; ok r0=0..64", e, at)
	}
	need("set r1 0", "", true)
	need("jmp 2", "", true)
	for _, word := range []string{"mov", "in", "get", "load"} {
		need(word+" r1 r2", "r2=1..1", true)
		need(word+" r1 r2", "r1=1..1", false)
		need(word+" r1 r1", "r1=1..1", true)
		need(word+" r1 r1", "", false)
	}
	for _, word := range []string{"add", "sub", "mul", "and", "div", "put", "keep"} {
		need(word+" r1 r2", "r1=1..1 r2=1..1", true)
		need(word+" r1 r2", "r1=1..1", false)
		need(word+" r1 r2", "r2=1..1", false)
		need(word+" r1 r1", "r1=1..1", true)
		need(word+" r1 r1", "r0=1..1 r2=1..1", false)
	}
	for _, word := range []string{"jlt", "jeq"} {
		need(word+" r1 r2 2", "r1="+all+" r2="+all, true)
		need(word+" r1 r2 2", "r1=1..1", false)
		need(word+" r1 r2 2", "r2=1..1", false)
		need(word+" r1 r1 2", "r1=1..1", true)
		need(word+" r1 r1 2", "r2=1..1", false)
	}
	for _, word := range []string{"out", "end"} {
		need(word+" r1", "r1="+all, true)
		need(word+" r1", "r0=0..1 r2=0..1", false)
		need(word+" r7", "r7=0..0", true)
	}
	for _, c := range []struct {
		span string
		met  bool
	}{{"1..1", true}, {"-1..-1", true}, {"1..9223372036854775807", true}, {"-9223372036854775808..-1", true}, {"0..0", false}, {"0..1", false}, {"-1..0", false}, {"-1..1", false}, {all, false}} {
		need("div r1 r2", "r1="+all+" r2="+c.span, c.met)
		need("div r1 r1", "r1="+c.span, c.met)
	}
	for word, places := range map[string]int64{"in": 64, "get": 16, "load": 8} {
		needPlaces(places, func(span string, met bool) { need(word+" r1 r2", "r1="+all+" r2="+span, met) })
	}
	for word, places := range map[string]int64{"put": 16, "keep": 8} {
		needPlaces(places, func(span string, met bool) { need(word+" r1 r2", "r1="+span+" r2="+all, met) })
	}
}

func needPlaces(places int64, need func(span string, met bool)) {
	need(spanText(0, 0), true)
	need(spanText(0, places-1), true)
	need(spanText(places-1, places-1), true)
	need(spanText(0, places), false)
	need(spanText(places, places), false)
	need(spanText(-1, 0), false)
	need(spanText(-1, places-1), false)
	need(spanText(-1, places), false)
	need(spanText(math.MinInt64, math.MinInt64), false)
	need(spanText(0, math.MaxInt64), false)
	need(spanText(math.MinInt64, places-1), false)
	need(spanText(0, 1<<32), false)
}

// turns counts out what is so of r1 and r2 on both ways of a jump, by going through all their numbers.
func turns(word string, a, b, c, d *big.Int) (yes, no []modelSpan) {
	hulls := func(list []modelSpan, x, y *big.Int) []modelSpan {
		if list == nil {
			return []modelSpan{{x, x}, {y, y}}
		}
		return []modelSpan{{lesser(list[0].low, x), greater(list[0].high, x)}, {lesser(list[1].low, y), greater(list[1].high, y)}}
	}
	one := big.NewInt(1)
	for x := a; x.Cmp(b) <= 0; x = new(big.Int).Add(x, one) {
		for y := c; y.Cmp(d) <= 0; y = new(big.Int).Add(y, one) {
			if word == "jlt" && x.Cmp(y) < 0 || word == "jeq" && x.Cmp(y) == 0 {
				yes = hulls(yes, x, y)
			} else {
				no = hulls(no, x, y)
			}
		}
	}
	if word == "jeq" && no != nil {
		no = []modelSpan{{a, b}, {c, d}} // nothing more
	}
	return yes, no
}

// TestCheckTurns: all spans of up to five numbers, near 0 and at both ends of 64 bits.
func TestCheckTurns(t *testing.T) {
	for _, base := range []*big.Int{big.NewInt(-2), least, new(big.Int).Sub(greatest, big.NewInt(4))} {
		at := func(i int) *big.Int { return new(big.Int).Add(base, big.NewInt(int64(i))) }
		for i := range 5 * 5 * 5 * 5 {
			a, b, c, d := i%5, i/5%5, i/25%5, i/125
			if a > b || c > d {
				continue
			}
			for _, word := range []string{"jlt", "jeq"} {
				yes, no := turns(word, at(a), at(b), at(c), at(d))
				testTurn(t, word, modelSpan{at(a), at(b)}, modelSpan{at(c), at(d)}, yes, no)
			}
		}
	}
}

// testTurn: line 1, which no line leads to, goes to line 3 with just yes, and to line 2 with just no.
func testTurn(t *testing.T, word string, r, s modelSpan, yes, no []modelSpan) {
	t.Helper()
	program := "jmp 4; " + word + " r1 r2 3; jmp 2; jmp 3; end r0"
	claim := func(spans []modelSpan) string {
		if spans == nil {
			return "-"
		}
		return modelClaim{"r1": spans[0], "r2": spans[1]}.text()
	}
	proof := func(yes, no []modelSpan) string {
		return "ok r0=0..64; " + claim([]modelSpan{r, s}) + "; " + claim(no) + "; " + claim(yes) + "; ok r0=0..64"
	}
	testCheck(t, program, proof(yes, no), api.OK, 0)
	for _, narrow := range narrower(yes) {
		testCheck(t, program, proof(narrow, no), api.ErrClaim, 1)
	}
	for _, narrow := range narrower(no) {
		testCheck(t, program, proof(yes, narrow), api.ErrClaim, 1)
	}
}

// narrower are claims that say a little too much: never, or one number less.
func narrower(spans []modelSpan) [][]modelSpan {
	if spans == nil {
		return nil
	}
	out := [][]modelSpan{nil}
	one := big.NewInt(1)
	for i, s := range spans {
		if s.low.Cmp(s.high) == 0 {
			continue
		}
		for _, n := range []modelSpan{{new(big.Int).Add(s.low, one), s.high}, {s.low, new(big.Int).Sub(s.high, one)}} {
			both := []modelSpan{spans[0], spans[1]}
			both[i] = n
			out = append(out, both)
		}
	}
	return out
}

// TestCheckTurnsAtTheEnds: wide spans, told outright.
func TestCheckTurnsAtTheEnds(t *testing.T) {
	one := big.NewInt(1)
	whole := modelSpan{least, greatest}
	lowest, highest := modelSpan{least, least}, modelSpan{greatest, greatest}
	notHighest, notLowest := modelSpan{least, new(big.Int).Sub(greatest, one)}, modelSpan{new(big.Int).Add(least, one), greatest}
	testTurn(t, "jlt", whole, whole, []modelSpan{notHighest, notLowest}, []modelSpan{whole, whole})
	testTurn(t, "jlt", whole, lowest, nil, []modelSpan{whole, lowest})
	testTurn(t, "jlt", highest, whole, nil, []modelSpan{highest, whole})
	testTurn(t, "jlt", lowest, whole, []modelSpan{lowest, notLowest}, []modelSpan{lowest, lowest})
	testTurn(t, "jlt", whole, highest, []modelSpan{notHighest, highest}, []modelSpan{highest, highest})
	testTurn(t, "jlt", lowest, highest, []modelSpan{lowest, highest}, nil)
	testTurn(t, "jeq", whole, whole, []modelSpan{whole, whole}, []modelSpan{whole, whole})
	testTurn(t, "jeq", whole, lowest, []modelSpan{lowest, lowest}, []modelSpan{whole, lowest})
	testTurn(t, "jeq", highest, lowest, nil, []modelSpan{highest, lowest})
	testTurn(t, "jeq", highest, highest, []modelSpan{highest, highest}, nil)
}

// TestCheckTurnsAlike: R and S the same register, whatever it is.
func TestCheckTurnsAlike(t *testing.T) {
	for _, s := range []string{"0..9", "5..5", all, "-9223372036854775808..-9223372036854775808"} {
		claim := "ok r1=" + s + " r3=1..2"
		for _, other := range []string{"-", claim} {
			testCheck(t, "jmp 4; jlt r1 r1 3; jmp 2; jmp 3; end r0", "ok r0=0..64; "+claim+"; "+claim+"; "+other+"; ok r0=0..64", api.OK, 0)
			testCheck(t, "jmp 4; jeq r1 r1 3; jmp 2; jmp 3; end r0", "ok r0=0..64; "+claim+"; "+other+"; "+claim+"; ok r0=0..64", api.OK, 0)
		}
		// Ways that are not gone may lead to a line whose claim would not follow.
		testCheck(t, "jmp 4; jlt r1 r1 3; jmp 2; end r5; end r0", "ok r0=0..64; "+claim+"; "+claim+"; ok r5=0..0; ok r0=0..64", api.OK, 0)
		testCheck(t, "jmp 4; jeq r1 r1 3; end r5; jmp 3; end r0", "ok r0=0..64; "+claim+"; ok r5=0..0; "+claim+"; ok r0=0..64", api.OK, 0)
		testCheck(t, "jmp 4; jlt r1 r1 3; jmp 2; jmp 3; end r0", "ok r0=0..64; "+claim+"; -; "+claim+"; ok r0=0..64", api.ErrClaim, 1)
		testCheck(t, "jmp 4; jeq r1 r1 3; jmp 2; jmp 3; end r0", "ok r0=0..64; "+claim+"; "+claim+"; -; ok r0=0..64", api.ErrClaim, 1)
	}
}

// TestCheckTurnsToOneLine: both ways of a jump may lead to the same line; each must be right there.
func TestCheckTurnsToOneLine(t *testing.T) {
	const program = "set r1 5; jlt r0 r1 2; end r0"
	testCheck(t, program, "ok r0=0..64; ok r0=0..64 r1=5..5; ok r0=0..64", api.OK, 0)
	testCheck(t, program, "ok r0=0..64; ok r0=0..64 r1=5..5; ok r0=0..63", api.ErrClaim, 1)
	testCheck(t, program, "ok r0=0..64; ok r0=0..64 r1=5..5; ok r0=1..64", api.ErrClaim, 1)
	// A line may lead to itself.
	testCheck(t, "jeq r0 r0 0; end r0", "ok r0=0..64; -", api.OK, 0)
	testCheck(t, "set r1 5; jlt r0 r1 1; end r0", "ok r0=0..64; ok r0=0..64 r1=5..5; ok r0=5..64", api.OK, 0)
}

// TestCheckedRunsGoRight: where Check takes a proof no run goes wrong, and at each line what its claim says is so.
func TestCheckedRunsGoRight(t *testing.T) {
	r := rand.New(rand.NewSource(5))
	taken := 0
	for range 5000 {
		program := safeProgram(r)
		proof := anyProof(r, program)
		if e, _ := Check(program, proof); e != api.OK {
			continue
		}
		taken++
		input := strings.Repeat("\x07q\xff", r.Intn(30))
		for fuel := range 60 {
			s, _, _ := Run(program, input, fuel)
			claim, _ := modelReadClaim(strings.Split(proof, "\n")[s.Line])
			if s.How == api.Fault || !isSo(claim, s) {
				t.Fatalf("P9: Check(%q, %q) is OK, but with %d bytes a run is %+v", program, proof, len(input), s)
			}
		}
	}
	if taken < 1000 {
		t.Errorf("too few proofs hold to tell anything: %d", taken)
	}
}

func isSo(claim modelClaim, s api.State) bool {
	for r, span := range claim {
		reg := s.Regs[r[1]-'0']
		n := big.NewInt(reg.N)
		if !reg.Set || n.Cmp(span.low) < 0 || n.Cmp(span.high) > 0 {
			return false
		}
	}
	return claim != nil
}
