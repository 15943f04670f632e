package tiles_test

import (
	"math"
	"slices"
	"testing"

	"tiles/api"
	"tiles/tiles"
)

// planJob has all that Plan looks at, and nothing else that is right.
func planJob(rows int, cols int, blockRows int, blockCols int, blockDepth int) api.Job {
	return api.Job{Out: api.View{Rows: rows, Cols: cols}, BlockRows: blockRows, BlockCols: blockCols, BlockDepth: blockDepth}
}

func tile(fromRow int, toRow int, fromCol int, toCol int) api.Tile {
	return api.Tile{FromRow: fromRow, ToRow: toRow, FromCol: fromCol, ToCol: toCol}
}

func checkPlan(t *testing.T, j api.Job, want []api.Tile, code api.Errno) {
	t.Helper()
	if got, e := tiles.Plan(j); !slices.Equal(got, want) || e != code {
		t.Errorf("Plan of %+v by %d, %d, %d = %v, %d, want %v, %d", j.Out, j.BlockRows, j.BlockCols, j.BlockDepth, got, e, want, code)
	}
}

// wantTiles works out each tile from its number.
func wantTiles(rows int, cols int, blockRows int, blockCols int) []api.Tile {
	down, across := (rows+blockRows-1)/blockRows, (cols+blockCols-1)/blockCols
	var all []api.Tile
	for number := range down * across {
		r, c := number/across, number%across
		one := tile(r*blockRows, (r+1)*blockRows, c*blockCols, (c+1)*blockCols)
		if r == down-1 {
			one.ToRow = rows
		}
		if c == across-1 {
			one.ToCol = cols
		}
		all = append(all, one)
	}
	return all
}

func TestP5WrittenOut(t *testing.T) {
	for _, c := range []struct {
		rows, cols, blockRows, blockCols int
		want                             []api.Tile
	}{
		// The document's example 7.
		{5, 3, 4, 2, []api.Tile{tile(0, 4, 0, 2), tile(0, 4, 2, 3), tile(4, 5, 0, 2), tile(4, 5, 2, 3)}},
		{0, 3, 4, 2, nil},
		// Without columns, and without both.
		{5, 0, 4, 2, nil}, {0, 0, 4, 2, nil},
		// Blocks that divide one side, the other, or both.
		{4, 3, 2, 2, []api.Tile{tile(0, 2, 0, 2), tile(0, 2, 2, 3), tile(2, 4, 0, 2), tile(2, 4, 2, 3)}},
		{3, 4, 2, 4, []api.Tile{tile(0, 2, 0, 4), tile(2, 3, 0, 4)}},
		{4, 6, 2, 3, []api.Tile{tile(0, 2, 0, 3), tile(0, 2, 3, 6), tile(2, 4, 0, 3), tile(2, 4, 3, 6)}},
		// As great as the sides, one greater, and as great as may be.
		{5, 3, 5, 3, []api.Tile{tile(0, 5, 0, 3)}}, {5, 3, 6, 4, []api.Tile{tile(0, 5, 0, 3)}}, {5, 3, 64, 64, []api.Tile{tile(0, 5, 0, 3)}},
		// Of 1.
		{2, 2, 1, 1, []api.Tile{tile(0, 1, 0, 1), tile(0, 1, 1, 2), tile(1, 2, 0, 1), tile(1, 2, 1, 2)}},
		{1, 3, 64, 1, []api.Tile{tile(0, 1, 0, 1), tile(0, 1, 1, 2), tile(0, 1, 2, 3)}},
		{3, 1, 1, 64, []api.Tile{tile(0, 1, 0, 1), tile(1, 2, 0, 1), tile(2, 3, 0, 1)}},
		// The greatest sides.
		{24, 24, 23, 24, []api.Tile{tile(0, 23, 0, 24), tile(23, 24, 0, 24)}},
	} {
		checkPlan(t, planJob(c.rows, c.cols, c.blockRows, c.blockCols, 4), c.want, api.OK)
	}
}

func TestP5AllSides(t *testing.T) {
	blocks := []int{1, 2, 3, 5, 8, 12, 23, 24, 25, 63, 64}
	for rows := range api.MaxSide + 1 {
		for cols := range api.MaxSide + 1 {
			for _, blockRows := range blocks {
				for _, blockCols := range blocks {
					want := wantTiles(rows, cols, blockRows, blockCols)
					checkPlan(t, planJob(rows, cols, blockRows, blockCols, 1), want, api.OK)
				}
			}
		}
	}
}

func TestP5EachElementInOneTile(t *testing.T) {
	for _, block := range []int{1, 2, 3, 4, 7, 24, 64} {
		var times [api.MaxSide][api.MaxSide]int
		all, _ := tiles.Plan(planJob(24, 23, block, block+block%2, 64))
		for _, one := range all {
			for i := one.FromRow; i < one.ToRow; i++ {
				for j := one.FromCol; j < one.ToCol; j++ {
					times[i][j]++
				}
			}
		}
		for i := range 24 {
			for j := range 23 {
				if times[i][j] != 1 {
					t.Errorf("blocks %d: row %d, column %d is in %d tiles", block, i, j, times[i][j])
				}
			}
		}
	}
}

func TestP5Wrong(t *testing.T) {
	wrongSides := []int{math.MinInt, least, -2, -1, 25, 26, 64, most, 1 << 32, math.MaxInt}
	wrongBlocks := []int{math.MinInt, least, -1 << 32, -1, 0, 65, 66, most, 1 << 32, 1<<32 + 1, math.MaxInt}
	for _, n := range wrongSides {
		checkPlan(t, planJob(n, 3, 4, 2, 1), nil, api.ErrView)
		checkPlan(t, planJob(5, n, 4, 2, 1), nil, api.ErrView)
		checkPlan(t, planJob(n, 0, 4, 2, 1), nil, api.ErrView)
		checkPlan(t, planJob(0, n, 4, 2, 1), nil, api.ErrView)
		checkPlan(t, planJob(n, n, 4, 2, 1), nil, api.ErrView)
		for _, b := range wrongBlocks {
			checkPlan(t, planJob(n, 3, b, 2, 1), nil, api.ErrView)
			checkPlan(t, planJob(5, n, 4, b, b), nil, api.ErrView)
		}
	}
	for _, b := range wrongBlocks {
		checkPlan(t, planJob(5, 3, b, 2, 1), nil, api.ErrBlock)
		checkPlan(t, planJob(5, 3, 4, b, 1), nil, api.ErrBlock)
		checkPlan(t, planJob(5, 3, 4, 2, b), nil, api.ErrBlock)
		checkPlan(t, planJob(0, 0, b, 2, 1), nil, api.ErrBlock)
		checkPlan(t, planJob(0, 3, 4, b, 1), nil, api.ErrBlock)
		checkPlan(t, planJob(5, 0, 4, 2, b), nil, api.ErrBlock)
	}
}

// Only sides and blocks count for Plan: neither the rest of Out nor the rest of the job.
func TestP5LooksAtNothingElse(t *testing.T) {
	for _, n := range append(anyNumbers(), 65, 5001) {
		for _, turned := range []bool{false, true} {
			j := wildJob(n, turned)
			j.Out.Rows, j.Out.Cols = 5, 3
			j.BlockRows, j.BlockCols, j.BlockDepth = 4, 2, 64
			checkPlan(t, j, []api.Tile{tile(0, 4, 0, 2), tile(0, 4, 2, 3), tile(4, 5, 0, 2), tile(4, 5, 2, 3)}, api.OK)
		}
	}
}

func TestP2TilesAreNewMemory(t *testing.T) {
	j := planJob(24, 24, 5, 7, 3)
	want := wantTiles(24, 24, 5, 7)
	first, _ := tiles.Plan(j)
	second, _ := tiles.Plan(j)
	spoil(first, tile(-1, -1, -1, -1))
	if !slices.Equal(second, want) {
		t.Errorf("what comes out second shares memory with what came out first: %v", second)
	}
	third, _ := tiles.Plan(j)
	if !slices.Equal(third, want) {
		t.Errorf("what was written into an answer came back: %v", third)
	}
}

// spoil writes into a list and into its spare room.
func spoil[E any](list []E, with E) {
	list = list[:cap(list)]
	for i := range list {
		list[i] = with
	}
}
