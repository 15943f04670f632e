// Package work does jobs that are right: workers share their tiles.
package work

import (
	"sync"

	"tiles/api"
	"tiles/block"
	"tiles/finish"
	"tiles/plan"
	"tiles/view"
)

// Crew keeps the scratch of its workers from job to job. Its zero value is ready; it does one job at a time.
type Crew struct {
	unsigned []*block.Scratch[uint8]
	signed   []*block.Scratch[int8]
}

// Do writes the results of a job into out, at the places that Out sees.
func (c *Crew) Do(j api.Job, left []int, right []int, out []int) {
	pair := block.PairOf(j, left, right)
	if j.Kind == api.U8 {
		c.unsigned = share(c.unsigned, j, pair, out)
	} else {
		c.signed = share(c.signed, j, pair, out)
	}
}

// share answers all the scratch that there is then: a job with more workers than any one ahead of it needs more.
func share[E block.Element](scratch []*block.Scratch[E], j api.Job, pair block.Pair, out []int) []*block.Scratch[E] {
	tiles := plan.Tiles(j.Out.Rows, j.Out.Cols, j.BlockRows, j.BlockCols)
	// A worker without a tile would have nothing to do.
	workers := min(j.Workers, len(tiles))
	scratch = atLeast(scratch, workers)
	var all sync.WaitGroup
	for first := range workers {
		all.Go(func() {
			// Each takes every so-many-th tile: no tile has two workers, and no two tiles share a place of out.
			for n := first; n < len(tiles); n += workers {
				write(j, tiles[n], scratch[first].Sums(pair, tiles[n]), out)
			}
		})
	}
	all.Wait()
	return scratch
}

func atLeast[E block.Element](scratch []*block.Scratch[E], workers int) []*block.Scratch[E] {
	for len(scratch) < workers {
		scratch = append(scratch, new(block.Scratch[E]))
	}
	return scratch
}

// write brings the sums of a tile, row by row, to their places.
func write(j api.Job, t api.Tile, sums []int32, out []int) {
	n := 0
	for row := t.FromRow; row < t.ToRow; row++ {
		for col := t.FromCol; col < t.ToCol; col++ {
			out[view.Place(j.Out, row, col)] = finish.Result(j, row, col, sums[n])
			n++
		}
	}
}
