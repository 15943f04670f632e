package tiles_test

import (
	"math/big"
	"math/rand"
	"slices"
	"testing"

	"tiles/api"
)

// to32 is x to 32 bits, by division.
func to32(x *big.Int) int {
	// Mod answers nothing below 0.
	above := new(big.Int).Add(x, big.NewInt(api.Int32))
	above.Mod(above, big.NewInt(1<<32))
	return int(above.Int64()) - api.Int32
}

// less is x less zero, in numbers that have no limits.
func less(x int, zero int) *big.Int {
	return new(big.Int).Sub(big.NewInt(int64(x)), big.NewInt(int64(zero)))
}

// seenBy is the matrix that v sees, row by row.
func seenBy(v api.View, buffer []int) []int {
	var all []int
	for _, place := range wantPlaces(v, len(buffer)) {
		all = append(all, buffer[place])
	}
	return all
}

// wantSum adds all up, and only then brings it to 32 bits.
func wantSum(j api.Job, left []int, right []int, i int, c int) int {
	sum := new(big.Int)
	for k := range j.Left.Cols {
		l, r := less(left[i*j.Left.Cols+k], j.LeftZero), less(right[k*j.Right.Cols+c], j.RightZero)
		sum.Add(sum, l.Mul(l, r))
	}
	return to32(sum)
}

func wantResult(j api.Job, i int, c int, sum int) int {
	x := sum
	if j.BiasBy == 1 {
		x = to32(big.NewInt(int64(x + j.Bias[i])))
	}
	if j.BiasBy == 2 {
		x = to32(big.NewInt(int64(x + j.Bias[c])))
	}
	if j.ScaleBy == 1 {
		x = wantShifted(wantHigh(x, j.Factors[0]), j.Shifts[0])
	}
	if j.ScaleBy == 2 {
		x = wantShifted(wantHigh(x, j.Factors[i]), j.Shifts[i])
	}
	x = to32(big.NewInt(int64(x + j.OutZero)))
	x = wantHeld(x, j.Low, j.High)
	least := []int{0, 0, -128, -32768, -api.Int32}[j.OutKind]
	most := []int{0, 255, 127, 32767, api.Int32 - 1}[j.OutKind]
	return wantHeld(x, least, most)
}

func wantHeld(x int, low int, high int) int {
	if x < low {
		return low
	}
	if x > high {
		return high
	}
	return x
}

// wantMultiply follows the document's words for a task that is right.
func wantMultiply(k api.Task) []int {
	j := k.Job
	left, right := seenBy(j.Left, k.Left), seenBy(j.Right, k.Right)
	want := slices.Clone(k.Out)
	for n, place := range wantPlaces(j.Out, len(k.Out)) {
		i, c := n/j.Out.Cols, n%j.Out.Cols
		want[place] = wantResult(j, i, c, wantSum(j, left, right, i, c))
	}
	return want
}

// reach is how far the places of v lie below and above its Offset.
func reach(v api.View) (int, int) {
	low, high := 0, 0
	for i := range v.Rows {
		for j := range v.Cols {
			place := i*v.RowStep + j*v.ColStep
			if v.Turned {
				place = j*v.RowStep + i*v.ColStep
			}
			low, high = min(low, place), max(high, place)
		}
	}
	return low, high
}

// anyView sees a matrix of these sides, with steps of either sign or of 0, somewhere in a buffer of the length that it answers too.
func anyView(r *rand.Rand, rows int, cols int) (api.View, int) {
	for {
		v := api.View{Rows: rows, Cols: cols, Turned: r.Intn(2) == 0}
		v.RowStep, v.ColStep = r.Intn(121)-60, r.Intn(121)-60
		if r.Intn(2) == 0 {
			v.RowStep, v.ColStep = r.Intn(7)-3, r.Intn(7)-3
		}
		low, high := reach(v)
		ahead := r.Intn(4)
		v.Offset = ahead - low
		if length := ahead + high - low + 1 + r.Intn(4); length <= api.MaxBuffer {
			return v, length
		}
	}
}

// outView is anyView, but no two of its elements share a place.
func outView(r *rand.Rand, rows int, cols int) (api.View, int) {
	for {
		if v, length := anyView(r, rows, cols); !wantTwice(v, length) {
			return v, length
		}
	}
}

// anyI32 is at an end of I32, about 0, or anywhere.
func anyI32(r *rand.Rand) int {
	switch r.Intn(4) {
	case 0:
		return edges[r.Intn(len(edges))]
	case 1:
		return r.Intn(1<<32) + least
	}
	return r.Intn(1001) - 500
}

func fillWith(n int, number func() int) []int {
	list := make([]int, n)
	for i := range list {
		list[i] = number()
	}
	return list
}

// anyTask is right, and as unlike others as may be.
func anyTask(r *rand.Rand, rows int, depth int, cols int) api.Task {
	var k api.Task
	j := &k.Job
	j.Kind, j.OutKind = 1+r.Intn(2), 1+r.Intn(4)
	element := func() int { return r.Intn(256) - (j.Kind-api.U8)*128 }
	var length int
	j.Left, length = anyView(r, rows, depth)
	k.Left = fillWith(length, element)
	j.Right, length = anyView(r, depth, cols)
	k.Right = fillWith(length, element)
	j.Out, length = outView(r, rows, cols)
	k.Out = fillWith(length, r.Int)
	j.LeftZero, j.RightZero, j.OutZero = anyI32(r), anyI32(r), anyI32(r)
	j.BiasBy, j.ScaleBy = r.Intn(3), r.Intn(3)
	j.Bias = fillWith([]int{0, rows, cols}[j.BiasBy], func() int { return anyI32(r) })
	scales := []int{0, 1, rows}[j.ScaleBy]
	j.Factors, j.Shifts = fillWith(scales, func() int { return anyI32(r) }), fillWith(scales, func() int { return r.Intn(32) })
	j.Low, j.High = least, most
	if r.Intn(3) == 0 {
		a, b := anyI32(r), anyI32(r)
		j.Low, j.High = min(a, b), max(a, b)
	}
	recut(r, j)
	return k
}

// recut has the work cut and done in another way.
func recut(r *rand.Rand, j *api.Job) {
	j.BlockRows, j.BlockCols, j.BlockDepth, j.Workers = anyBlock(r), anyBlock(r), anyBlock(r), 1+r.Intn(64)
}

func anyBlock(r *rand.Rand) int {
	if r.Intn(4) == 0 {
		return 1 + r.Intn(64)
	}
	return 1 + r.Intn(8)
}

// anySide is often small, and at times none or the greatest.
func anySide(r *rand.Rand) int {
	return []int{0, 1, 2, 3, 4, 5, 1 + r.Intn(24), 1 + r.Intn(24), 24}[r.Intn(9)]
}

func TestP6ByWords(t *testing.T) {
	r := rand.New(rand.NewSource(11))
	for range 1500 {
		checkByWords(t, "any task", anyTask(r, anySide(r), anySide(r), anySide(r)))
	}
}

// plainAny is a task of elements of a kind, all else as in simpleTask.
func plainAny(r *rand.Rand, kind int, rows int, depth int, cols int) api.Task {
	k := simpleTask(rows, depth, cols)
	k.Job.Kind = kind
	element := func() int { return r.Intn(256) - (kind-api.U8)*128 }
	k.Left, k.Right = fillWith(rows*depth, element), fillWith(depth*cols, element)
	return k
}

func TestP6KindsAndOutKinds(t *testing.T) {
	r := rand.New(rand.NewSource(12))
	for _, kind := range []int{api.U8, api.I8} {
		for _, outKind := range []int{api.U8, api.I8, api.I16, api.I32} {
			for _, zero := range []int{0, -70000, -33000, -300, -128, 128, 300, 33000, 70000} {
				k := plainAny(r, kind, 5, 1, 6)
				k.Job.OutKind, k.Job.OutZero = outKind, zero
				checkByWords(t, "kinds", k)
			}
		}
	}
}

func TestP6ZeroPoints(t *testing.T) {
	r := rand.New(rand.NewSource(13))
	for _, leftZero := range edges {
		for _, rightZero := range edges {
			k := plainAny(r, 1+r.Intn(2), 2, []int{1, 2, 24}[r.Intn(3)], 2)
			k.Job.LeftZero, k.Job.RightZero = leftZero, rightZero
			checkByWords(t, "zero points", k)
		}
	}
}

func TestP6Biases(t *testing.T) {
	r := rand.New(rand.NewSource(14))
	for _, bias := range edges {
		for by := range 3 {
			k := plainAny(r, 1+r.Intn(2), 3, 4, 5)
			k.Job.BiasBy, k.Job.Bias = by, fillWith([]int{0, 3, 5}[by], func() int { return bias })
			checkByWords(t, "the same bias", k)
			for i := range k.Job.Bias {
				k.Job.Bias[i] = edges[r.Intn(len(edges))]
			}
			checkByWords(t, "other biases", k)
		}
	}
}

func TestP6Scales(t *testing.T) {
	r := rand.New(rand.NewSource(15))
	for _, factor := range edges {
		for shift := range 32 {
			k := plainAny(r, 1+r.Intn(2), 3, 2, 2)
			k.Job.LeftZero = []int{0, least, most, 1 << 20}[r.Intn(4)]
			k.Job.ScaleBy, k.Job.Factors, k.Job.Shifts = 1, []int{factor}, []int{shift}
			checkByWords(t, "for all", k)
			k.Job.ScaleBy, k.Job.Factors, k.Job.Shifts = 2, []int{1 << 30, factor, most}, []int{31 - shift, shift, 0}
			checkByWords(t, "by row", k)
		}
	}
}

func TestP6Limits(t *testing.T) {
	r := rand.New(rand.NewSource(16))
	for _, zero := range edges {
		for _, low := range edges {
			k := plainAny(r, 1+r.Intn(2), 2, 3, 2)
			k.Job.OutKind, k.Job.OutZero, k.Job.Low, k.Job.High = 1+r.Intn(4), zero, low, most
			checkByWords(t, "Low", k)
			k.Job.Low, k.Job.High = least, low
			checkByWords(t, "High", k)
			k.Job.Low = low
			checkByWords(t, "Low and High the same", k)
		}
	}
}

// TestP6SmallViews tries all small views of each of the three matrices.
func TestP6SmallViews(t *testing.T) {
	for _, sides := range [][2]int{{2, 3}, {3, 2}, {1, 3}, {3, 1}, {2, 2}} {
		for rowStep := -4; rowStep <= 4; rowStep++ {
			for colStep := -4; colStep <= 4; colStep++ {
				for _, turned := range []bool{false, true} {
					checkSmallView(t, api.View{Rows: sides[0], Cols: sides[1], RowStep: rowStep, ColStep: colStep, Turned: turned})
				}
			}
		}
	}
}

func checkSmallView(t *testing.T, v api.View) {
	t.Helper()
	low, high := reach(v)
	v.Offset = 1 - low
	length := high - low + 3
	for _, one := range lookAt(v, length) {
		if one.name == "Out" && wantTwice(v, length) {
			continue
		}
		next := 1
		for _, list := range []*[]int{&one.task.Left, &one.task.Right, &one.task.Out} {
			for i := range *list {
				(*list)[i] = next
				next++
			}
		}
		checkByWords(t, one.name, one.task)
	}
}

func TestP6NoElements(t *testing.T) {
	r := rand.New(rand.NewSource(17))
	for _, sides := range [][3]int{{0, 0, 0}, {0, 3, 4}, {2, 0, 4}, {2, 3, 0}, {0, 0, 4}, {0, 3, 0}, {2, 0, 0}, {24, 0, 24}, {0, 24, 24}, {24, 24, 0}} {
		for range 30 {
			k := anyTask(r, sides[0], sides[1], sides[2])
			checkByWords(t, "none", k)
			if sides[0] == 0 || sides[2] == 0 {
				checkMultiply(t, "Out sees nothing", k, k.Out)
			}
		}
	}
}
