package ward

import (
	"math"
	"math/big"
	"strconv"
	"testing"

	"ward/api"
)

// number is nine lines that give a register any number of 64 bits; another one is spoiled.
func number(register, spare string, n int64) string {
	shift := "set " + spare + " 16777216; mul " + register + " " + spare
	plus := func(part int64) string {
		return "set " + spare + " " + strconv.FormatInt(part, 10) + "; add " + register + " " + spare
	}
	low := int64(1<<24 - 1)
	return "set " + register + " " + strconv.FormatInt(n>>48, 10) + "; " + shift + "; " + plus(n>>24&low) + "; " + shift + "; " + plus(n&low)
}

// wrapped brings a number in again at the other end, by counting alone.
func wrapped(n *big.Int) int64 {
	all := new(big.Int).Lsh(big.NewInt(1), 64)
	half := new(big.Int).Lsh(big.NewInt(1), 63)
	n = new(big.Int).Add(n, half)
	n.Mod(n, all)
	return n.Sub(n, half).Int64()
}

// reckoned is what a word makes of two numbers, told by whole numbers without an end.
func reckoned(word string, a, b int64) int64 {
	x, y, out := big.NewInt(a), big.NewInt(b), new(big.Int)
	switch word {
	case "add":
		out.Add(x, y)
	case "sub":
		out.Sub(x, y)
	case "mul":
		out.Mul(x, y)
	case "and":
		out.And(x, y)
	case "div":
		out.Quo(x, y)
	}
	return wrapped(out)
}

func TestRunAtTheEndsOf64Bits(t *testing.T) {
	ends := []int64{math.MinInt64, math.MinInt64 + 1, -1 << 62, -1<<32 - 1, -1 << 31, -7, -2, -1, 0, 1, 2, 7, 1 << 31, 1<<32 + 1, 1 << 62, math.MaxInt64 - 1, math.MaxInt64}
	for _, word := range []string{"add", "sub", "mul", "and", "div"} {
		for _, a := range ends {
			for _, b := range ends {
				if word == "div" && b == 0 {
					continue
				}
				program := number("r1", "r3", a) + "; " + number("r2", "r3", b) + "; out r1; out r2; " + word + " r1 r2; end r1"
				want := reckoned(word, a, b)
				s, e, _ := Run(prog(program), "", 99)
				out := strconv.FormatInt(a, 10) + " " + strconv.FormatInt(b, 10)
				if e != api.OK || s.How != api.Ended || s.Value != want || s.Out != out {
					t.Errorf("P4: %s of %d and %d: %+v, %d, want %d", word, a, b, s, e, want)
				}
			}
		}
	}
}

// TestRunEndsInFigures: the same ends, told outright.
func TestRunEndsInFigures(t *testing.T) {
	for _, c := range []struct {
		word       string
		a, b, want int64
	}{
		{"add", math.MaxInt64, 1, math.MinInt64},
		{"add", math.MinInt64, -1, math.MaxInt64},
		{"sub", math.MinInt64, 1, math.MaxInt64},
		{"sub", 0, math.MinInt64, math.MinInt64},
		{"mul", math.MinInt64, -1, math.MinInt64},
		{"mul", math.MaxInt64, 2, -2},
		{"div", math.MinInt64, -1, math.MinInt64},
		{"div", math.MinInt64, 1, math.MinInt64},
		{"div", math.MaxInt64, -1, -math.MaxInt64},
		{"div", -7, 2, -3},
		{"div", 7, -2, -3},
		{"div", -7, -2, 3},
		{"and", -1, math.MinInt64, math.MinInt64},
		{"and", -4, -6, -8},
	} {
		s, e, _ := Run(prog(number("r1", "r3", c.a)+"; "+number("r2", "r3", c.b)+"; "+c.word+" r1 r2; end r1"), "", 99)
		if e != api.OK || s.How != api.Ended || s.Value != c.want {
			t.Errorf("P4: %s of %d and %d: %+v, %d, want %d", c.word, c.a, c.b, s, e, c.want)
		}
	}
}

func TestRunComparesAtTheEnds(t *testing.T) {
	for _, c := range []struct {
		word string
		a, b int64
		gone bool
	}{
		{"jlt", math.MinInt64, math.MaxInt64, true}, {"jlt", math.MaxInt64, math.MinInt64, false}, {"jlt", math.MinInt64, math.MinInt64, false},
		{"jlt", math.MaxInt64 - 1, math.MaxInt64, true}, {"jeq", math.MaxInt64, math.MaxInt64, true}, {"jeq", math.MinInt64, math.MaxInt64, false}, {"jeq", 1 << 32, 0, false},
	} {
		want := 19
		if c.gone {
			want = 20
		}
		s, e, _ := Run(prog(number("r1", "r3", c.a)+"; "+number("r2", "r3", c.b)+"; "+c.word+" r1 r2 20; end r1; end r2"), "", 99)
		if e != api.OK || s.How != api.Ended || s.Line != want {
			t.Errorf("P4: %s of %d and %d: %+v, %d, want line %d", c.word, c.a, c.b, s, e, want)
		}
	}
}
