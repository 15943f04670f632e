package tiles_test

import (
	"math/rand"
	"slices"
	"testing"

	"tiles/api"
)

// sizes of blocks: of 1, dividing 24 and not, about 24 and the greatest ones.
var sizes = []int{1, 2, 3, 5, 8, 12, 13, 23, 24, 25, 63, 64}

func TestP7Blocks(t *testing.T) {
	r := rand.New(rand.NewSource(20))
	for _, sides := range [][3]int{{24, 24, 24}, {23, 19, 17}, {1, 24, 7}, {6, 1, 24}, {5, 0, 3}} {
		k := anyTask(r, sides[0], sides[1], sides[2])
		want := wantMultiply(k)
		for _, blockRows := range sizes {
			for _, blockCols := range sizes {
				for _, blockDepth := range sizes {
					k.Job.BlockRows, k.Job.BlockCols, k.Job.BlockDepth = blockRows, blockCols, blockDepth
					k.Job.Workers = 1 + r.Intn(8)
					checkMultiply(t, "blocks", k, want)
				}
			}
		}
	}
}

func TestP7EachBlockAndEachNumberOfWorkers(t *testing.T) {
	r := rand.New(rand.NewSource(21))
	for range 3 {
		k := anyTask(r, 20+r.Intn(5), 20+r.Intn(5), 20+r.Intn(5))
		want := wantMultiply(k)
		for _, number := range []*int{&k.Job.BlockRows, &k.Job.BlockCols, &k.Job.BlockDepth, &k.Job.Workers} {
			for n := range 64 {
				k.Job.BlockRows, k.Job.BlockCols, k.Job.BlockDepth, k.Job.Workers = 4, 5, 7, 3
				*number = n + 1
				checkMultiply(t, "each one", k, want)
			}
		}
	}
}

// Fewer workers than tiles, as many, and more.
func TestP7WorkersAndTiles(t *testing.T) {
	r := rand.New(rand.NewSource(22))
	for _, sides := range [][2]int{{24, 24}, {8, 8}, {7, 9}, {1, 24}, {3, 1}, {1, 1}} {
		k := anyTask(r, sides[0], 9, sides[1])
		k.Job.BlockRows, k.Job.BlockCols = 1, 1
		want := wantMultiply(k)
		for workers := range 64 {
			k.Job.Workers = workers + 1
			checkMultiply(t, "workers", k, want)
		}
	}
}

func turn(v api.View) api.View {
	return api.View{Rows: v.Cols, Cols: v.Rows, Offset: v.Offset, RowStep: v.RowStep, ColStep: v.ColStep, Turned: !v.Turned}
}

// turnOver turns both matrices, lets them change places, and turns Out.
func turnOver(k api.Task) api.Task {
	j := &k.Job
	j.Left, j.Right, j.Out = turn(j.Right), turn(j.Left), turn(j.Out)
	j.LeftZero, j.RightZero = j.RightZero, j.LeftZero
	k.Left, k.Right = k.Right, k.Left
	j.BiasBy = []int{0, 2, 1}[j.BiasBy]
	return k
}

func TestP7Turned(t *testing.T) {
	r := rand.New(rand.NewSource(23))
	for range 600 {
		k := anyTask(r, anySide(r), anySide(r), anySide(r))
		// A scale by row would have to become one by column, and there is none.
		if k.Job.ScaleBy == 2 {
			k.Job.ScaleBy = 0
		}
		want := wantMultiply(k)
		checkMultiply(t, "as it was", k, want)
		checkMultiply(t, "turned", turnOver(k), want)
	}
}

func TestP7TurnedWrittenOut(t *testing.T) {
	k := simpleTask(2, 3, 1)
	k.Left, k.Right = []int{1, 2, 3, 4, 5, 6}, []int{7, 8, 9}
	k.Job.BiasBy, k.Job.Bias = 1, []int{1000, 2000}
	checkMultiply(t, "as it was", k, []int{1050, 2122})
	checkMultiply(t, "turned", turnOver(k), []int{1050, 2122})
	k.Job.BiasBy, k.Job.Bias = 2, []int{3000}
	checkMultiply(t, "as it was", k, []int{3050, 3122})
	checkMultiply(t, "turned", turnOver(k), []int{3050, 3122})
}

// moved is list with n added to each number.
func moved(list []int, n int) []int {
	list = slices.Clone(list)
	for i := range list {
		list[i] += n
	}
	return list
}

// room is how far the elements and the zero point can be moved down and up, of a kind that begins at first.
func room(list []int, zero int, first int) (int, int) {
	return max(first-slices.Min(list), least-zero), min(first+255-slices.Max(list), most-zero)
}

func TestP7Added(t *testing.T) {
	r := rand.New(rand.NewSource(24))
	for range 300 {
		k := anyTask(r, anySide(r), anySide(r), anySide(r))
		first := (api.U8 - k.Job.Kind) * 128
		// Closer together, so that there is room on both sides.
		for _, list := range [][]int{k.Left, k.Right} {
			for i := range list {
				list[i] = first + 60 + (list[i]-first)/2
			}
		}
		want := wantMultiply(k)
		down, up := room(k.Left, k.Job.LeftZero, first)
		for _, n := range []int{down, -1, 1, up} {
			n = min(max(n, down), up)
			other := k
			other.Left, other.Job.LeftZero = moved(k.Left, n), k.Job.LeftZero+n
			checkMultiply(t, "added to Left", other, want)
		}
		down, up = room(k.Right, k.Job.RightZero, first)
		for _, n := range []int{down, -1, 1, up} {
			n = min(max(n, down), up)
			other := k
			other.Right, other.Job.RightZero = moved(k.Right, n), k.Job.RightZero+n
			checkMultiply(t, "added to Right", other, want)
		}
	}
}

// With both matrices 128 lower, and their zero points too, elements of U8 become elements of I8.
func TestP7FromOneKindToTheOther(t *testing.T) {
	r := rand.New(rand.NewSource(25))
	for range 200 {
		k := plainAny(r, api.U8, anySide(r), anySide(r), anySide(r))
		k.Job.LeftZero, k.Job.RightZero = r.Intn(256), []int{least + 128, most, 0}[r.Intn(3)]
		recut(r, &k.Job)
		want := wantMultiply(k)
		checkMultiply(t, "U8", k, want)
		k.Job.Kind = api.I8
		k.Left, k.Right = moved(k.Left, -128), moved(k.Right, -128)
		k.Job.LeftZero, k.Job.RightZero = k.Job.LeftZero-128, k.Job.RightZero-128
		checkMultiply(t, "I8", k, want)
	}
}
