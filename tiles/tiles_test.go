package tiles_test

import (
	"math"
	"math/big"
	"math/rand"
	"testing"

	"tiles/api"
	"tiles/tiles"
)

const least, most = -api.Int32, api.Int32 - 1

// edges holds numbers of I32 at its ends, about 0 and about the halves.
var edges = []int{
	least, least + 1, least + 2, -1<<30 - 1, -1 << 30, 1 - 1<<30, -40000, -1<<15 - 1, -1 << 15, 1 - 1<<15,
	-7, -6, -5, -3, -2, -1, 0, 1, 2, 3, 5, 6, 7, 1<<15 - 1, 1 << 15, 1<<15 + 1, 40000,
	1<<30 - 1, 1 << 30, 1<<30 + 1, most - 2, most - 1, most,
}

// outside holds numbers that are not of I32, just outside and far outside.
var outside = []int{
	math.MinInt, math.MinInt + 1, -1 << 62, -1 << 40, -1<<32 - 1, -1 << 32, 1 - 1<<32, least - 2, least - 1,
	most + 1, most + 2, 1<<32 - 1, 1 << 32, 1<<32 + 1, 1 << 40, 1 << 62, math.MaxInt - 1, math.MaxInt,
}

// wrongShifts holds shifts just outside 0 to 31 and far outside.
var wrongShifts = []int{
	math.MinInt, -1 << 32, least, -64, -32, -31, -2, -1, 32, 33, 63, 64, 65, 255, 256, most, 1 << 32, 1 << 62, math.MaxInt,
}

// wantHigh follows the document's words, by exact division.
func wantHigh(a int, b int) int {
	product := new(big.Int).Mul(big.NewInt(int64(a)), big.NewInt(int64(b)))
	below, rest := new(big.Int).DivMod(product, big.NewInt(api.Int32), new(big.Int))
	nearest := int(below.Int64())
	if 2*rest.Int64() >= api.Int32 {
		nearest++
	}
	if nearest > most {
		return most
	}
	return nearest
}

// wantShifted follows the document's words, by division of the number without its sign.
func wantShifted(x int, e int) int {
	if x < 0 {
		return -wantShifted(-x, e)
	}
	power := 1
	for range e {
		power *= 2
	}
	if 2*(x%power) >= power {
		return x/power + 1
	}
	return x / power
}

func checkHigh(t *testing.T, a int, b int, want int, code api.Errno) {
	t.Helper()
	if got, e := tiles.High(a, b); got != want || e != code {
		t.Errorf("High(%d, %d) = %d, %d, want %d, %d", a, b, got, e, want, code)
	}
}

func checkShifted(t *testing.T, x int, e int, want int, code api.Errno) {
	t.Helper()
	if got, c := tiles.Shifted(x, e); got != want || c != code {
		t.Errorf("Shifted(%d, %d) = %d, %d, want %d, %d", x, e, got, c, want, code)
	}
}

func TestP3HighWrittenOut(t *testing.T) {
	for _, c := range []struct{ a, b, want int }{
		// The document's example 3, and its neighbours.
		{api.Int32 / 2, 3, 2}, {api.Int32 / 2, -3, -1}, {least, least, most},
		{3, api.Int32 / 2, 2}, {-3, api.Int32 / 2, -1}, {-api.Int32 / 2, 3, -1}, {-api.Int32 / 2, -3, 2},
		// Ordinary numbers.
		{40000, 1 << 30, 20000}, {-40000, 1 << 30, -20000}, {1 << 20, 1 << 20, 512}, {5, 7, 0}, {-5, 7, 0},
		{1000000, 1000000, 466}, {-1000000, 1000000, -466}, {0, 0, 0},
		// The half and the numbers beside it, above and below 0.
		{1 << 30, 1, 1}, {1<<30 - 1, 1, 0}, {1<<30 + 1, 1, 1},
		{1 << 30, -1, 0}, {1<<30 - 1, -1, 0}, {1<<30 + 1, -1, -1},
		{1 << 30, 5, 3}, {1 << 30, -5, -2}, {1 << 15, 1 << 15, 1}, {-1 << 15, 1 << 15, 0},
		// The ends of I32.
		{least, most, -most}, {most, least, -most}, {most, most, most - 1},
		{least, 0, 0}, {least, 1, -1}, {least, -1, 1}, {most, 0, 0}, {most, 1, 1}, {most, -1, -1},
		{least, least + 1, most}, {least, least + 2, most - 1},
	} {
		checkHigh(t, c.a, c.b, c.want, api.OK)
	}
}

func TestP3HighByDivision(t *testing.T) {
	for _, a := range edges {
		for _, b := range edges {
			checkHigh(t, a, b, wantHigh(a, b), api.OK)
		}
	}
	r := rand.New(rand.NewSource(7))
	for range 5000 {
		a, b := r.Intn(1<<32)+least, r.Intn(1<<32)+least
		checkHigh(t, a, b, wantHigh(a, b), api.OK)
		// An odd number times the half of Int32 is a tie every time.
		checkHigh(t, a|1, 1<<30, wantHigh(a|1, 1<<30), api.OK)
	}
}

func TestP3HighWrong(t *testing.T) {
	for _, wrong := range outside {
		for _, right := range edges {
			checkHigh(t, wrong, right, 0, api.ErrZero)
			checkHigh(t, right, wrong, 0, api.ErrZero)
		}
		for _, other := range outside {
			checkHigh(t, wrong, other, 0, api.ErrZero)
		}
	}
}

func TestP3ShiftedWrittenOut(t *testing.T) {
	for _, c := range []struct{ x, e, want int }{
		// The document's example 3.
		{5, 1, 3}, {-5, 1, -3}, {6, 2, 2}, {-6, 2, -2}, {5, 2, 1},
		// Ordinary numbers.
		{20000, 3, 2500}, {-20000, 3, -2500}, {1000, 4, 63}, {-1000, 4, -63}, {1001, 4, 63}, {999, 4, 62}, {-999, 4, -62},
		// The half and the numbers beside it, above and below 0.
		{1, 1, 1}, {-1, 1, -1}, {3, 1, 2}, {-3, 1, -2}, {2, 2, 1}, {-2, 2, -1}, {1, 2, 0}, {-1, 2, 0}, {3, 2, 1}, {-3, 2, -1},
		{1 << 30, 31, 1}, {-1 << 30, 31, -1}, {1<<30 - 1, 31, 0}, {1 - 1<<30, 31, 0}, {1<<30 + 1, 31, 1}, {-1<<30 - 1, 31, -1},
		// By 0 nothing changes.
		{0, 0, 0}, {1, 0, 1}, {-1, 0, -1}, {least, 0, least}, {most, 0, most},
		// The ends of I32.
		{least, 1, -1 << 30}, {most, 1, 1 << 30}, {least + 1, 1, -1 << 30}, {least, 30, -2}, {most, 30, 2},
		{least, 31, -1}, {most, 31, 1}, {0, 31, 0},
	} {
		checkShifted(t, c.x, c.e, c.want, api.OK)
	}
}

func TestP3ShiftedByDivision(t *testing.T) {
	r := rand.New(rand.NewSource(8))
	for e := range 32 {
		for _, x := range edges {
			checkShifted(t, x, e, wantShifted(x, e), api.OK)
		}
		for range 300 {
			x := r.Intn(1<<32) + least
			checkShifted(t, x, e, wantShifted(x, e), api.OK)
			// At the half behind a multiple of 2 to the e, and just beside it.
			half := 1 << e >> 1
			tie := x>>e<<e + half
			for _, near := range []int{max(tie-1, least), tie, min(tie+1, most)} {
				checkShifted(t, near, e, wantShifted(near, e), api.OK)
			}
		}
	}
}

func TestP3ShiftedWrong(t *testing.T) {
	for _, x := range outside {
		for e := range 32 {
			checkShifted(t, x, e, 0, api.ErrZero)
		}
		// The document names ErrZero first.
		for _, e := range wrongShifts {
			checkShifted(t, x, e, 0, api.ErrZero)
		}
	}
	for _, x := range edges {
		for _, e := range wrongShifts {
			checkShifted(t, x, e, 0, api.ErrScale)
		}
	}
}
