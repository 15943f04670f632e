// Package work does jobs that are right: workers share their tiles.
package work

import (
	"sync"

	"tiles/api"
	"tiles/block"
	"tiles/finish"
	"tiles/plan"
	"tiles/view"
)

// Do writes the results of a job into out, at the places that Out sees.
func Do(j api.Job, left []int, right []int, out []int) {
	pair := block.PairOf(j, left, right)
	if j.Kind == api.U8 {
		share[uint8](j, pair, out)
	} else {
		share[int8](j, pair, out)
	}
}

func share[E block.Element](j api.Job, pair block.Pair, out []int) {
	tiles := plan.Tiles(j.Out.Rows, j.Out.Cols, j.BlockRows, j.BlockCols)
	// A worker without a tile would have nothing to do.
	workers := min(j.Workers, len(tiles))
	var all sync.WaitGroup
	for first := range workers {
		all.Go(func() {
			var scratch block.Scratch[E]
			// Each takes every so-many-th tile: no tile has two workers, and no two tiles share a place of out.
			for n := first; n < len(tiles); n += workers {
				write(j, tiles[n], scratch.Sums(pair, tiles[n]), out)
			}
		})
	}
	all.Wait()
}

// write brings the sums of a tile, row by row, to their places.
func write(j api.Job, t api.Tile, sums []int32, out []int) {
	n := 0
	for row := t.FromRow; row < t.ToRow; row++ {
		for col := t.FromCol; col < t.ToCol; col++ {
			out[view.Place(j.Out, row, col)] = finish.Result(j, row, col, sums[n])
			n++
		}
	}
}
