package fixed

import (
	"math"
	"testing"
)

// wild holds numbers at the edges of every kind, and far outside.
var wild = []int{
	math.MinInt, math.MinInt + 1, -1 << 40, math.MinInt32 - 1, math.MinInt32, math.MinInt32 + 1,
	-32769, -32768, -32767, -256, -129, -128, -127, -1, 0, 1, 126, 127, 128, 254, 255, 256,
	32766, 32767, 32768, 65535, 65536, math.MaxInt32 - 1, math.MaxInt32, math.MaxInt32 + 1,
	1 << 32, 1 << 40, math.MaxInt - 1, math.MaxInt,
}

func checkCut[K Kind](t *testing.T, name string, least K, most K) {
	t.Helper()
	for _, x := range wild {
		want := x
		if x < int(least) {
			want = int(least)
		}
		if x > int(most) {
			want = int(most)
		}
		if got := int(Cut(x, least, most)); got != want {
			t.Errorf("Cut of %d to %s = %d, want %d", x, name, got, want)
		}
	}
}

func TestCut(t *testing.T) {
	checkCut[uint8](t, "U8", 0, 255)
	checkCut[int8](t, "I8", -128, 127)
	checkCut[int16](t, "I16", -32768, 32767)
	checkCut[int32](t, "I32", math.MinInt32, math.MaxInt32)
}

func checkIs[K Kind](t *testing.T, name string, least int, most int) {
	t.Helper()
	for _, x := range wild {
		if got, want := Is[K](x), least <= x && x <= most; got != want {
			t.Errorf("Is of %d, %s = %t, want %t", x, name, got, want)
		}
	}
}

func TestIs(t *testing.T) {
	checkIs[uint8](t, "U8", 0, 255)
	checkIs[int8](t, "I8", -128, 127)
	checkIs[int16](t, "I16", -32768, 32767)
	checkIs[int32](t, "I32", math.MinInt32, math.MaxInt32)
}

func TestIsShift(t *testing.T) {
	for e := range 32 {
		if !IsShift(e) {
			t.Errorf("IsShift(%d) = false", e)
		}
	}
	for _, e := range []int{math.MinInt, -32, -1, 32, 33, 64, math.MaxInt} {
		if IsShift(e) {
			t.Errorf("IsShift(%d) = true", e)
		}
	}
}

func TestHigh(t *testing.T) {
	for _, c := range []struct{ a, b, want int32 }{
		{1 << 30, 3, 2}, {1 << 30, -3, -1}, {1 << 30, 1 << 30, 1 << 29},
		{math.MinInt32, math.MinInt32, math.MaxInt32},
		{math.MinInt32, math.MaxInt32, -math.MaxInt32},
	} {
		if got := High(c.a, c.b); got != c.want {
			t.Errorf("High(%d, %d) = %d, want %d", c.a, c.b, got, c.want)
		}
	}
}

func TestShifted(t *testing.T) {
	for _, c := range []struct {
		x    int32
		e    int
		want int32
	}{
		{5, 1, 3}, {-5, 1, -3}, {6, 2, 2}, {-6, 2, -2}, {5, 2, 1},
		{math.MinInt32, 0, math.MinInt32}, {math.MaxInt32, 0, math.MaxInt32},
		{math.MinInt32, 31, -1}, {math.MaxInt32, 31, 1},
	} {
		if got := Shifted(c.x, c.e); got != c.want {
			t.Errorf("Shifted(%d, %d) = %d, want %d", c.x, c.e, got, c.want)
		}
	}
}
