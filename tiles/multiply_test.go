package tiles_test

import (
	"math"
	"math/rand"
	"slices"
	"testing"

	"tiles/api"
	"tiles/tiles"
)

func checkMultiply(t *testing.T, name string, k api.Task, want []int) {
	t.Helper()
	if got, e := tiles.Multiply(k.Job, k.Left, k.Right, k.Out); !slices.Equal(got, want) || e != api.OK {
		t.Errorf("%s: Multiply = %v, %d, want %v, of %+v", name, got, e, want, k)
	}
}

// checkByWords holds Multiply against the document's words.
func checkByWords(t *testing.T, name string, k api.Task) {
	t.Helper()
	checkMultiply(t, name, k, wantMultiply(k))
}

// example1 is the document's.
func example1() api.Task {
	k := simpleTask(2, 2, 2)
	k.Left, k.Right, k.Out = []int{1, 2, 3, 4}, []int{5, 6, 7, 8}, []int{9, 9, 9, 9}
	return k
}

// example4 is the document's: 40000 becomes 20000, then 2500.
func example4() api.Task {
	k := simpleTask(1, 1, 1)
	k.Left, k.Right = []int{200}, []int{200}
	k.Job.ScaleBy, k.Job.Factors, k.Job.Shifts = 1, []int{api.Int32 / 2}, []int{3}
	return k
}

// product is a task, something done to it, and what then comes out.
type product struct {
	name string
	task api.Task
	turn func(k *api.Task)
	want []int
}

func checkProducts(t *testing.T, all []product) {
	t.Helper()
	for _, c := range all {
		c.turn(&c.task)
		checkMultiply(t, c.name, c.task, c.want)
	}
}

// examples are the document's.
func examples() []product {
	return []product{
		{"example 1", example1(), func(k *api.Task) {}, []int{19, 22, 43, 50}},
		{"example 1, LeftZero", example1(), func(k *api.Task) { k.Job.LeftZero = 1 }, []int{7, 8, 31, 36}},
		{"example 1, both zero points", example1(), func(k *api.Task) { k.Job.LeftZero, k.Job.RightZero = 1, 5 }, []int{2, 3, 6, 11}},
		{"example 2", simpleTask(2, 0, 3), func(k *api.Task) {}, []int{0, 0, 0, 0, 0, 0}},
		{"example 2, Bias", simpleTask(2, 0, 3), func(k *api.Task) { k.Job.BiasBy, k.Job.Bias = 1, []int{5, 7} }, []int{5, 5, 5, 7, 7, 7}},
		{"example 4", example4(), func(k *api.Task) {}, []int{2500}},
		{"example 4, U8", example4(), func(k *api.Task) { k.Job.OutKind = api.U8 }, []int{255}},
		{"example 4, I8", example4(), func(k *api.Task) { k.Job.OutKind = api.I8 }, []int{127}},
		{"example 4, OutZero", example4(), func(k *api.Task) { k.Job.OutKind, k.Job.OutZero = api.U8, -2400 }, []int{100}},
		{"example 4, High", example4(), func(k *api.Task) { k.Job.OutKind, k.Job.OutZero, k.Job.High = api.U8, -2400, 50 }, []int{50}},
		{"example 5", simpleTask(1, 1, 1), func(k *api.Task) {
			k.Left, k.Right, k.Job.LeftZero = []int{255}, []int{255}, least
		}, []int{-2147418623}},
		{"example 6", example1(), func(k *api.Task) {
			k.Out, k.Job.Out = []int{9, 9, 9, 9, 9, 9}, api.View{Rows: 2, Cols: 2, Offset: 5, RowStep: -2, ColStep: -1}
		}, []int{9, 9, 50, 43, 22, 19}},
	}
}

func TestP6Examples(t *testing.T) {
	checkProducts(t, examples())
}

func TestP6Example6Wrong(t *testing.T) {
	k := example1()
	k.Out, k.Job.Out = []int{9, 9, 9, 9, 9, 9}, api.View{Rows: 2, Cols: 2, Offset: 3, RowStep: -2, ColStep: 2}
	checkNothing(t, "example 6", k, api.ErrTwice)
	k.Job.Out.Offset = 5
	checkNothing(t, "example 6", k, api.ErrView)
}

func checkNothing(t *testing.T, name string, k api.Task, want api.Errno) {
	t.Helper()
	if got, e := tiles.Multiply(k.Job, k.Left, k.Right, k.Out); len(got) != 0 || e != want {
		t.Errorf("%s: Multiply = %v, %d, want nothing and %d, of %+v", name, got, e, want, k)
	}
}

func TestP6EachError(t *testing.T) {
	for _, f := range faults() {
		k := fullTask()
		f.turn(&k)
		checkNothing(t, f.name, k, f.want)
	}
}

func TestP6ErrorOfCheck(t *testing.T) {
	r := rand.New(rand.NewSource(10))
	all := faults()
	for range 2000 {
		k := fullTask()
		for range 2 {
			// Lists that one change makes shorter are not there for another one to write into.
			if f := all[r.Intn(len(all))]; f.want != api.ErrElement {
				f.turn(&k)
			}
		}
		if code := tiles.Check(k.Job, k.Left, k.Right, k.Out); code != api.OK {
			checkNothing(t, "two faults", k, code)
		}
	}
}

func TestP6EachRightTask(t *testing.T) {
	checkByWords(t, "nothing changed", fullTask())
	for _, c := range rights() {
		k := fullTask()
		c.turn(&k)
		checkByWords(t, c.name, k)
	}
}

func writtenOut() []product {
	return slices.Concat(zeroProducts(), biasProducts(), scaleProducts(), limitProducts(), viewProducts(), emptyProducts())
}

func TestP6WrittenOut(t *testing.T) {
	checkProducts(t, writtenOut())
}

func one(kind int, left int, right int) api.Task {
	k := simpleTask(1, 1, 1)
	k.Job.Kind, k.Left, k.Right = kind, []int{left}, []int{right}
	return k
}

func zeroProducts() []product {
	return []product{
		{"I8, the least", one(api.I8, -128, -128), func(k *api.Task) {}, []int{16384}},
		{"I8, both ends", one(api.I8, -128, 127), func(k *api.Task) {}, []int{-16256}},
		{"U8, the greatest", one(api.U8, 255, 255), func(k *api.Task) {}, []int{65025}},
		{"U8, less zero points", one(api.U8, 0, 255), func(k *api.Task) { k.Job.LeftZero, k.Job.RightZero = 255, 255 }, []int{0}},
		{"U8, below its zero point", one(api.U8, 0, 255), func(k *api.Task) { k.Job.LeftZero = 255 }, []int{-65025}},
		// Int32 times Int32 is a multiple of 2 to the 32.
		{"both zero points the least", one(api.U8, 0, 0), func(k *api.Task) { k.Job.LeftZero, k.Job.RightZero = least, least }, []int{0}},
		{"Int32 times 1", one(api.U8, 0, 1), func(k *api.Task) { k.Job.LeftZero = least }, []int{least}},
		{"-most times 1", one(api.U8, 0, 1), func(k *api.Task) { k.Job.LeftZero = most }, []int{-most}},
		{"most times most", one(api.U8, 0, 0), func(k *api.Task) { k.Job.LeftZero, k.Job.RightZero = most, most }, []int{1}},
		{"one less than the least", one(api.I8, -1, 1), func(k *api.Task) { k.Job.LeftZero = most }, []int{least}},
		{"two less than the least", one(api.I8, -2, 1), func(k *api.Task) { k.Job.LeftZero = most }, []int{most}},
		{"a sum that wraps round", simpleTask(1, 2, 1), func(k *api.Task) {
			k.Left, k.Right, k.Job.LeftZero = []int{0, 0}, []int{1, 1}, 1-api.Int32
		}, []int{-2}},
		{"a sum that wraps round and comes back", simpleTask(1, 3, 1), func(k *api.Task) {
			k.Job.Kind, k.Left, k.Right, k.Job.LeftZero = api.I8, []int{0, 0, 0}, []int{1, 1, -1}, -most
		}, []int{most}},
	}
}

func biasProducts() []product {
	return []product{
		{"by row", example1(), func(k *api.Task) { k.Job.BiasBy, k.Job.Bias = 1, []int{100, -200} }, []int{119, 122, -157, -150}},
		{"by column", example1(), func(k *api.Task) { k.Job.BiasBy, k.Job.Bias = 2, []int{100, -200} }, []int{119, -178, 143, -150}},
		{"none", example1(), func(k *api.Task) { k.Job.BiasBy, k.Job.Bias = 0, []int{100, -200} }, []int{19, 22, 43, 50}},
		{"beyond the greatest", one(api.U8, 1, 1), func(k *api.Task) { k.Job.BiasBy, k.Job.Bias = 1, []int{most} }, []int{least}},
		{"beyond the least", one(api.I8, -1, 1), func(k *api.Task) { k.Job.BiasBy, k.Job.Bias = 2, []int{least} }, []int{most}},
		// To 32 bits ahead of the scale: the greatest and 1 is the least, and half of it is below 0.
		{"to 32 bits ahead of the scale", one(api.U8, 1, 1), func(k *api.Task) {
			k.Job.BiasBy, k.Job.Bias, k.Job.ScaleBy, k.Job.Factors, k.Job.Shifts = 1, []int{most}, 1, []int{1 << 30}, []int{0}
		}, []int{-1 << 30}},
	}
}

func scaleProducts() []product {
	scale := func(by int, factors []int, shifts []int) func(k *api.Task) {
		return func(k *api.Task) { k.Job.ScaleBy, k.Job.Factors, k.Job.Shifts = by, factors, shifts }
	}
	return []product{
		{"for all", example1(), scale(1, []int{1 << 30}, []int{1}), []int{5, 6, 11, 13}},
		{"by row", example1(), scale(2, []int{1 << 30, -1 << 30}, []int{1, 0}), []int{5, 6, -21, -25}},
		{"none", example1(), scale(0, []int{1 << 30}, []int{1}), []int{19, 22, 43, 50}},
		{"the least Factor", example1(), scale(1, []int{least}, []int{0}), []int{-19, -22, -43, -50}},
		{"the greatest Factor", example1(), scale(1, []int{most}, []int{0}), []int{19, 22, 43, 50}},
		{"Factor 0", example1(), scale(1, []int{0}, []int{0}), []int{0, 0, 0, 0}},
		{"the greatest Shift", example1(), scale(1, []int{most}, []int{31}), []int{0, 0, 0, 0}},
		// A tie of the high product goes up, one of the shift away from 0.
		{"a tie of the high product", one(api.U8, 1, 3), scale(1, []int{-1 << 30}, []int{0}), []int{-1}},
		{"a tie of the shift", one(api.I8, -1, 5), scale(1, []int{most}, []int{1}), []int{-3}},
		// 1.5 becomes 2, a quarter of which is a tie; 0.375 in one step would be none.
		{"rounded twice", one(api.U8, 1, 3), scale(1, []int{1 << 30}, []int{2}), []int{1}},
		{"the least by the least", one(api.U8, 0, 1), func(k *api.Task) {
			k.Job.LeftZero = least
			scale(1, []int{least}, []int{0})(k)
		}, []int{most}},
	}
}

func limitProducts() []product {
	return []product{
		{"OutZero", example1(), func(k *api.Task) { k.Job.OutZero = -30 }, []int{-11, -8, 13, 20}},
		{"OutZero, beyond the greatest", one(api.U8, 1, 1), func(k *api.Task) { k.Job.OutZero = most }, []int{least}},
		{"OutZero, beyond the least", one(api.I8, -1, 1), func(k *api.Task) { k.Job.OutZero = least }, []int{most}},
		// Wrapped round ahead of the limits and of the cut.
		{"OutZero, beyond, and U8", one(api.U8, 1, 1), func(k *api.Task) { k.Job.OutZero, k.Job.OutKind = most, api.U8 }, []int{0}},
		{"OutZero, beyond, and High", one(api.U8, 1, 1), func(k *api.Task) { k.Job.OutZero, k.Job.High = most, 7 }, []int{least}},
		{"OutZero behind the scale", example4(), func(k *api.Task) { k.Job.OutZero = 8 }, []int{2508}},
		{"Low and High", example1(), func(k *api.Task) { k.Job.Low, k.Job.High = 20, 43 }, []int{20, 22, 43, 43}},
		{"Low and High the same", example1(), func(k *api.Task) { k.Job.Low, k.Job.High = 22, 22 }, []int{22, 22, 22, 22}},
		{"Low the greatest", example1(), func(k *api.Task) { k.Job.Low = most }, []int{most, most, most, most}},
		{"High the least", example1(), func(k *api.Task) { k.Job.High = least }, []int{least, least, least, least}},
		// The kind has the last word.
		{"limits above the kind", one(api.U8, 1, 1), func(k *api.Task) { k.Job.Low, k.Job.High, k.Job.OutKind = 300, 400, api.U8 }, []int{255}},
		{"limits below the kind", one(api.U8, 1, 1), func(k *api.Task) { k.Job.Low, k.Job.High, k.Job.OutKind = -400, -300, api.U8 }, []int{0}},
		{"U8 at its ends", example1(), func(k *api.Task) { k.Job.OutZero, k.Job.OutKind = -22, api.U8 }, []int{0, 0, 21, 28}},
		{"U8 at its other end", example1(), func(k *api.Task) { k.Job.OutZero, k.Job.OutKind = 255-43, api.U8 }, []int{231, 234, 255, 255}},
		{"I8 at its ends", example1(), func(k *api.Task) { k.Job.OutZero, k.Job.OutKind = -22-128, api.I8 }, []int{-128, -128, -107, -100}},
		{"I8 at its other end", example1(), func(k *api.Task) { k.Job.OutZero, k.Job.OutKind = 127-43, api.I8 }, []int{103, 106, 127, 127}},
		{"I16 at its ends", example1(), func(k *api.Task) { k.Job.OutZero, k.Job.OutKind = -22-32768, api.I16 }, []int{-32768, -32768, -32747, -32740}},
		{"I16 at its other end", example1(), func(k *api.Task) { k.Job.OutZero, k.Job.OutKind = 32767-43, api.I16 }, []int{32743, 32746, 32767, 32767}},
		{"I32 is not cut", one(api.U8, 255, 255), func(k *api.Task) {}, []int{65025}},
	}
}

func viewProducts() []product {
	return []product{
		{"Left turned", example1(), func(k *api.Task) { k.Job.Left.Turned = true }, []int{26, 30, 38, 44}},
		{"Right turned", example1(), func(k *api.Task) { k.Job.Right.Turned = true }, []int{17, 23, 39, 53}},
		{"Out turned", example1(), func(k *api.Task) { k.Job.Out.Turned = true }, []int{19, 43, 22, 50}},
		{"all turned", example1(), func(k *api.Task) {
			k.Job.Left.Turned, k.Job.Right.Turned, k.Job.Out.Turned = true, true, true
		}, []int{23, 34, 31, 46}},
		{"Left shares one place", example1(), func(k *api.Task) { k.Job.Left.RowStep, k.Job.Left.ColStep = 0, 0 }, []int{12, 14, 12, 14}},
		{"Right shares one place", example1(), func(k *api.Task) { k.Job.Right.RowStep, k.Job.Right.ColStep = 0, 0 }, []int{15, 15, 35, 35}},
		{"rows of Left the same", example1(), func(k *api.Task) { k.Job.Left.RowStep = 0 }, []int{19, 22, 19, 22}},
		{"columns of Right the same", example1(), func(k *api.Task) { k.Job.Right.ColStep = 0 }, []int{5 + 14, 5 + 14, 15 + 28, 15 + 28}},
		{"rows of Right overlap", example1(), func(k *api.Task) { k.Job.Right.RowStep = 1 }, []int{5 + 12, 6 + 14, 15 + 24, 18 + 28}},
		{"Left backwards", example1(), func(k *api.Task) {
			k.Job.Left.Offset, k.Job.Left.RowStep, k.Job.Left.ColStep = 3, -2, -1
		}, []int{20 + 21, 24 + 24, 10 + 7, 12 + 8}},
		{"Out seen in part", example1(), func(k *api.Task) {
			k.Out, k.Job.Out.Offset, k.Job.Out.RowStep, k.Job.Out.ColStep = []int{math.MinInt, 1, math.MaxInt, 3, 4, 5, 6, 7, 8}, 1, 4, 2
		}, []int{math.MinInt, 19, math.MaxInt, 22, 4, 43, 6, 50, 8}},
		{"what Left and Right don't see", example1(), func(k *api.Task) {
			k.Left, k.Job.Left.Offset = []int{-1, 1, 2, 3, 4, math.MaxInt}, 1
			k.Right, k.Job.Right.Offset, k.Job.Right.ColStep, k.Job.Right.RowStep = []int{256, 256, 5, 256, 6, 256, 7, 256, 8, 256}, 2, 2, 4
		}, []int{19, 22, 43, 50}},
	}
}

func emptyProducts() []product {
	return []product{
		{"no rows", simpleTask(0, 3, 2), func(k *api.Task) { k.Out = []int{8, 1 << 62} }, []int{8, 1 << 62}},
		{"no columns", simpleTask(3, 2, 0), func(k *api.Task) { k.Out = []int{8, math.MinInt} }, []int{8, math.MinInt}},
		{"no rows, no Out", simpleTask(0, 3, 2), func(k *api.Task) { k.Out = nil }, nil},
		{"nothing at all", simpleTask(0, 0, 0), func(k *api.Task) { k.Left, k.Right, k.Out = nil, nil, nil }, nil},
		{"no depth, part of Out", simpleTask(2, 0, 1), func(k *api.Task) { k.Out, k.Job.Out.RowStep = []int{1, 2, 3, 4}, 2 }, []int{0, 2, 0, 4}},
		{"no depth, zero points", simpleTask(1, 0, 2), func(k *api.Task) { k.Job.LeftZero, k.Job.RightZero = 8, 9 }, []int{0, 0}},
		{"no depth, by column", simpleTask(2, 0, 3), func(k *api.Task) { k.Job.BiasBy, k.Job.Bias = 2, []int{5, 7, 1} }, []int{5, 7, 1, 5, 7, 1}},
		{"no depth, all the rest", simpleTask(2, 0, 1), func(k *api.Task) {
			k.Job.BiasBy, k.Job.Bias, k.Job.OutZero, k.Job.OutKind = 1, []int{40, 2000}, -5, api.U8
			k.Job.ScaleBy, k.Job.Factors, k.Job.Shifts = 1, []int{1 << 30}, []int{1}
		}, []int{5, 255}},
	}
}
