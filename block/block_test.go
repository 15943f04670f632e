package block

import (
	"math"
	"slices"
	"testing"

	"tiles/api"
)

// pairOf is Left 1 2 3 / 4 5 6 and Right 1 2 / 3 4 / 5 6, each lying row by row.
func pairOf(blockDepth int) Pair {
	return PairOf(api.Job{
		Left:       api.View{Rows: 2, Cols: 3, RowStep: 3, ColStep: 1},
		Right:      api.View{Rows: 3, Cols: 2, RowStep: 2, ColStep: 1},
		BlockDepth: blockDepth,
	}, []int{1, 2, 3, 4, 5, 6}, []int{1, 2, 3, 4, 5, 6})
}

func TestPackSideBySide(t *testing.T) {
	p := pairOf(2)
	var room [6]uint8
	for _, c := range []struct {
		side         side
		lines, depth span
		want         []uint8
	}{
		{p.left, span{0, 2}, span{0, 3}, []uint8{1, 2, 3, 4, 5, 6}},
		{p.left, span{0, 2}, span{0, 2}, []uint8{1, 2, 4, 5}},
		{p.left, span{1, 2}, span{2, 3}, []uint8{6}},
		{p.right, span{0, 2}, span{0, 3}, []uint8{1, 3, 5, 2, 4, 6}},
		{p.right, span{0, 2}, span{1, 3}, []uint8{3, 5, 4, 6}},
		{p.right, span{1, 2}, span{0, 1}, []uint8{2}},
	} {
		got := pack(room[:], c.side, c.lines, c.depth)
		if !slices.Equal(got.elements, c.want) || got.lines != c.lines.length() || got.depth != c.depth.length() {
			t.Errorf("pack of %v, %v = %+v, want %v", c.lines, c.depth, got, c.want)
		}
		if &got.elements[0] != &room[0] {
			t.Errorf("pack of %v, %v does not use its room", c.lines, c.depth)
		}
	}
}

func TestMultiplyAddsToTheSums(t *testing.T) {
	sums := []int32{100, 200, 300, 400}
	multiply(sums, packed[uint8]{[]uint8{1, 2, 3, 4}, 2, 2, 0}, packed[uint8]{[]uint8{5, 7, 6, 8}, 2, 2, 0})
	if want := []int32{119, 222, 343, 450}; !slices.Equal(sums, want) {
		t.Errorf("sums %v, want %v", sums, want)
	}
}

func TestProductOfBothKinds(t *testing.T) {
	for _, c := range []struct {
		aZero, bZero, unsigned, signed int32
	}{
		{0, 0, 255 * 128, 1 * 128},
		{1, 0, 254 * 128, 2 * 128},
		{0, 1, 255 * 127, 1 * 129},
		{math.MinInt32, 0, 255 * 128, 128},
		{math.MaxInt32, 0, 256 * 128, 0},
		{math.MinInt32, math.MinInt32, math.MinInt32 + 255*128, math.MinInt32 + 128},
	} {
		// The same eight bits: 255 and 128, or -1 and -128.
		if got := product([]uint8{255}, []uint8{128}, c.aZero, c.bZero); got != c.unsigned {
			t.Errorf("zero points %d, %d: product without signs %d, want %d", c.aZero, c.bZero, got, c.unsigned)
		}
		if got := product([]int8{-1}, []int8{-128}, c.aZero, c.bZero); got != c.signed {
			t.Errorf("zero points %d, %d: product with signs %d, want %d", c.aZero, c.bZero, got, c.signed)
		}
	}
}

func checkSums[E Element](t *testing.T, s *Scratch[E]) {
	t.Helper()
	for blockDepth := 1; blockDepth <= 4; blockDepth++ {
		for _, c := range []struct {
			tile api.Tile
			want []int32
		}{
			{api.Tile{ToRow: 2, ToCol: 2}, []int32{22, 28, 49, 64}},
			{api.Tile{FromRow: 1, ToRow: 2, ToCol: 2}, []int32{49, 64}},
			{api.Tile{ToRow: 2, FromCol: 1, ToCol: 2}, []int32{28, 64}},
			{api.Tile{ToRow: 1, ToCol: 1}, []int32{22}},
		} {
			if got := s.Sums(pairOf(blockDepth), c.tile); !slices.Equal(got, c.want) {
				t.Errorf("blocks %d deep, tile %+v: %v, want %v", blockDepth, c.tile, got, c.want)
			}
		}
	}
}

// One scratch serves tile after tile, greater and smaller ones.
func TestSumsTileByTile(t *testing.T) {
	checkSums(t, new(Scratch[uint8]))
	checkSums(t, new(Scratch[int8]))
}

func TestSumsLessTheZeroPoints(t *testing.T) {
	v := api.View{Rows: 2, Cols: 2, RowStep: 2, ColStep: 1}
	j := api.Job{Left: v, Right: v, LeftZero: 1, BlockDepth: 1}
	var s Scratch[uint8]
	for _, c := range []struct {
		rightZero int
		want      []int32
	}{{0, []int32{7, 8, 31, 36}}, {5, []int32{2, 3, 6, 11}}} {
		j.RightZero = c.rightZero
		p := PairOf(j, []int{1, 2, 3, 4}, []int{5, 6, 7, 8})
		if got := s.Sums(p, api.Tile{ToRow: 2, ToCol: 2}); !slices.Equal(got, c.want) {
			t.Errorf("zero points 1, %d: %v, want %v", c.rightZero, got, c.want)
		}
	}
}

func TestSumsWithoutDepth(t *testing.T) {
	var s Scratch[int8]
	checkSums(t, &s)
	j := api.Job{Left: api.View{Rows: 2}, Right: api.View{Cols: 2}, BlockDepth: 4, LeftZero: 5, RightZero: 6}
	if got := s.Sums(PairOf(j, nil, nil), api.Tile{ToRow: 2, ToCol: 2}); !slices.Equal(got, []int32{0, 0, 0, 0}) {
		t.Errorf("sums without depth: %v", got)
	}
}

func TestCleanLeavesNothing(t *testing.T) {
	var s Scratch[uint8]
	for i := range most {
		s.left[i], s.right[i], s.sums[i] = 1, 2, 3
	}
	s.clean()
	if s != (Scratch[uint8]{}) {
		t.Error("something is left in the scratch")
	}
}

// dirt is what another job may have left in a scratch.
func dirt[E Element]() *Scratch[E] {
	s := new(Scratch[E])
	for i := range most {
		s.left[i], s.right[i], s.sums[i] = 77, 99, math.MaxInt32
	}
	return s
}

func TestSumsBehindAnotherJob(t *testing.T) {
	checkSums(t, dirt[uint8]())
	checkSums(t, dirt[int8]())
	s := dirt[uint8]()
	j := api.Job{Left: api.View{Rows: 24}, Right: api.View{Cols: 24}, BlockDepth: 1}
	if got := s.Sums(PairOf(j, nil, nil), api.Tile{ToRow: 24, ToCol: 24}); !slices.Equal(got, make([]int32, most)) {
		t.Errorf("sums without depth, behind another job: %v", got)
	}
	if *s != (Scratch[uint8]{}) {
		t.Error("something of another job is left in the scratch")
	}
}
