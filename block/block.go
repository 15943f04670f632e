// Package block packs blocks of two matrices, so that what is multiplied lies side by side, and multiplies them.
package block

import (
	"tiles/api"
	"tiles/view"
)

// Element is the Go type of an element of eight bits, with a sign or without one.
type Element interface {
	uint8 | int8
}

// Pair is the two matrices of a job.
type Pair struct {
	left, right side
	depth       int
	blockDepth  int
}

// side is a matrix as its lines, all of which run along the depth: so both matrices are packed alike.
type side struct {
	lines  api.View
	buffer []int
	zero   int32
}

// PairOf takes the matrices of a job that is right.
func PairOf(j api.Job, left []int, right []int) Pair {
	return Pair{
		left:       side{j.Left, left, int32(j.LeftZero)},
		right:      side{view.Turn(j.Right), right, int32(j.RightZero)},
		depth:      j.Left.Cols,
		blockDepth: j.BlockDepth,
	}
}

// span is of lines, or of the depth; to is the first one behind it.
type span struct {
	from, to int
}

func (s span) length() int {
	return s.to - s.from
}

// most is how many elements a block has at most: no matrix has longer sides.
const most = api.MaxSide * api.MaxSide

// Scratch is what one worker packs into and adds up in, tile by tile and job by job.
type Scratch[E Element] struct {
	left, right [most]E
	sums        [most]int32
}

// Sums are those of a tile, row by row. They stand in the scratch, until it is used again.
func (s *Scratch[E]) Sums(p Pair, t api.Tile) []int32 {
	s.clean()
	rows, cols := span{t.FromRow, t.ToRow}, span{t.FromCol, t.ToCol}
	sums := s.sums[:rows.length()*cols.length()]
	for from := 0; from < p.depth; from += p.blockDepth {
		depth := span{from, min(from+p.blockDepth, p.depth)}
		multiply(sums, pack(s.left[:], p.left, rows, depth), pack(s.right[:], p.right, cols, depth))
	}
	return sums
}

// clean takes away what the tile ahead, of this job or of another one, has left behind: sums go on from what stands there.
func (s *Scratch[E]) clean() {
	clear(s.left[:])
	clear(s.right[:])
	clear(s.sums[:])
}

// packed is a block whose lines lie one behind the other.
type packed[E Element] struct {
	elements []E
	lines    int
	depth    int
	zero     int32
}

func (p packed[E]) line(n int) []E {
	return p.elements[n*p.depth : (n+1)*p.depth]
}

func pack[E Element](room []E, s side, lines span, depth span) packed[E] {
	elements := room[:0]
	for line := lines.from; line < lines.to; line++ {
		for k := depth.from; k < depth.to; k++ {
			elements = append(elements, E(s.buffer[view.Place(s.lines, line, k)]))
		}
	}
	return packed[E]{elements, lines.length(), depth.length(), s.zero}
}

// multiply adds to the sums what two blocks give, which cover the same part of the depth.
func multiply[E Element](sums []int32, left packed[E], right packed[E]) {
	for i := range left.lines {
		for j := range right.lines {
			sums[i*right.lines+j] += product(left.line(i), right.line(j), left.zero, right.zero)
		}
	}
}

func product[E Element](a []E, b []E, aZero int32, bZero int32) int32 {
	var sum int32
	for k := range a {
		// Wrapping round at each step comes to the same as once, of the whole sum.
		sum += (int32(a[k]) - aZero) * (int32(b[k]) - bZero)
	}
	return sum
}
