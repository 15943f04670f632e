package tiles_test

import (
	"math"
	"slices"
	"testing"

	"tiles/api"
	"tiles/tiles"
)

// plainView sees a matrix that lies row by row.
func plainView(rows int, cols int) api.View {
	return api.View{Rows: rows, Cols: cols, RowStep: cols, ColStep: 1}
}

// simpleTask is right, and has neither bias nor scale.
func simpleTask(rows int, depth int, cols int) api.Task {
	return api.Task{
		Job: api.Job{
			Kind: api.U8, Left: plainView(rows, depth), Right: plainView(depth, cols), Out: plainView(rows, cols), OutKind: api.I32,
			Low: least, High: most, BlockRows: 4, BlockCols: 4, BlockDepth: 4, Workers: 1,
		},
		Left: make([]int, rows*depth), Right: make([]int, depth*cols), Out: make([]int, rows*cols),
	}
}

// fullTask is right, and has a bias by column and a scale by row. No two of its sides are the same, so that none can be taken for another.
func fullTask() api.Task {
	k := simpleTask(2, 3, 4)
	k.Job.BiasBy, k.Job.Bias = 2, []int{10, 20, 30, 40}
	k.Job.ScaleBy, k.Job.Factors, k.Job.Shifts = 2, []int{1 << 30, 1 << 29}, []int{1, 2}
	k.Left, k.Right = []int{1, 2, 3, 4, 5, 6}, []int{1, 2, 3, 4, 5, 6, 7, 8, 9, 10, 11, 12}
	return k
}

func checkTask(t *testing.T, name string, k api.Task, want api.Errno) {
	t.Helper()
	if e := tiles.Check(k.Job, k.Left, k.Right, k.Out); e != want {
		t.Errorf("%s: Check = %d, want %d, of %+v", name, e, want, k.Job)
	}
}

// change is something done to fullTask, and what Check then answers.
type change struct {
	name string
	turn func(k *api.Task)
	want api.Errno
}

// faults are wrong each by one thing, most of them just outside a limit.
func faults() []change {
	return slices.Concat(kindFaults(), viewFaults(), shapeFaults(), elementFaults(), twiceFaults(), zeroFaults(), biasFaults(), scaleFaults(), limitFaults(), workFaults())
}

// numberChanges sets a number of the task to each one of those named.
func numberChanges(name string, number func(k *api.Task) *int, want api.Errno, to ...int) []change {
	var all []change
	for _, n := range to {
		all = append(all, change{name, func(k *api.Task) { *number(k) = n }, want})
	}
	return all
}

func kindFaults() []change {
	return slices.Concat(
		numberChanges("Kind", func(k *api.Task) *int { return &k.Job.Kind }, api.ErrKind, math.MinInt, -1, 0, api.I16, api.I32, 5, 257, 1<<32+1, math.MaxInt),
		numberChanges("OutKind", func(k *api.Task) *int { return &k.Job.OutKind }, api.ErrKind, math.MinInt, -1, 0, 5, 257, 1<<32+1, math.MaxInt),
	)
}

func viewFaults() []change {
	all := []change{
		{"Left too long", func(k *api.Task) { k.Left = append(k.Left, make([]int, 5001-len(k.Left))...) }, api.ErrView},
		{"Right too long", func(k *api.Task) { k.Right = append(k.Right, make([]int, 5001-len(k.Right))...) }, api.ErrView},
		{"Out too long", func(k *api.Task) { k.Out = make([]int, 5001) }, api.ErrView},
		{"Left too short", func(k *api.Task) { k.Left = k.Left[:5] }, api.ErrView},
		{"Right too short", func(k *api.Task) { k.Right = k.Right[:11] }, api.ErrView},
		{"Out too short", func(k *api.Task) { k.Out = k.Out[:7] }, api.ErrView},
		{"no Left", func(k *api.Task) { k.Left = nil }, api.ErrView},
		{"no Right", func(k *api.Task) { k.Right = nil }, api.ErrView},
		{"no Out", func(k *api.Task) { k.Out = nil }, api.ErrView},
	}
	for _, see := range []func(k *api.Task) *api.View{
		func(k *api.Task) *api.View { return &k.Job.Left },
		func(k *api.Task) *api.View { return &k.Job.Right },
		func(k *api.Task) *api.View { return &k.Job.Out },
	} {
		all = slices.Concat(all,
			numberChanges("Rows", func(k *api.Task) *int { return &see(k).Rows }, api.ErrView, math.MinInt, -1, 25, math.MaxInt),
			numberChanges("Cols", func(k *api.Task) *int { return &see(k).Cols }, api.ErrView, math.MinInt, -1, 25, math.MaxInt),
			numberChanges("Offset", func(k *api.Task) *int { return &see(k).Offset }, api.ErrView, math.MinInt, -1<<62, -1<<32, -1, 1, 12, 1<<32, 1<<62, math.MaxInt),
			numberChanges("RowStep", func(k *api.Task) *int { return &see(k).RowStep }, api.ErrView, math.MinInt, -1001, -1000, -1, 5, 1000, 1001, 1<<32, 1<<63-1),
			numberChanges("ColStep", func(k *api.Task) *int { return &see(k).ColStep }, api.ErrView, math.MinInt, -1001, -1000, -1, 5, 1000, 1001, 1<<32, 1<<63-1),
		)
	}
	return all
}

func shapeFaults() []change {
	return slices.Concat(
		numberChanges("Left.Rows", func(k *api.Task) *int { return &k.Job.Left.Rows }, api.ErrShape, 0, 1),
		numberChanges("Left.Cols", func(k *api.Task) *int { return &k.Job.Left.Cols }, api.ErrShape, 0, 2),
		numberChanges("Right.Rows", func(k *api.Task) *int { return &k.Job.Right.Rows }, api.ErrShape, 0, 2),
		numberChanges("Right.Cols", func(k *api.Task) *int { return &k.Job.Right.Cols }, api.ErrShape, 0, 3),
		numberChanges("Out.Rows", func(k *api.Task) *int { return &k.Job.Out.Rows }, api.ErrShape, 0, 1),
		numberChanges("Out.Cols", func(k *api.Task) *int { return &k.Job.Out.Cols }, api.ErrShape, 0, 3),
	)
}

func elementFaults() []change {
	var all []change
	for place := range 6 {
		all = append(all, numberChanges("element of Left", func(k *api.Task) *int { return &k.Left[place] }, api.ErrElement, math.MinInt, -1, 256, 1<<32, math.MaxInt)...)
	}
	for place := range 12 {
		all = append(all, numberChanges("element of Right", func(k *api.Task) *int { return &k.Right[place] }, api.ErrElement, -1<<32, -1, 256, 1<<32)...)
	}
	return all
}

func twiceFaults() []change {
	return []change{
		{"Out.RowStep of 0", func(k *api.Task) { k.Job.Out.RowStep = 0 }, api.ErrTwice},
		{"Out.ColStep of 0", func(k *api.Task) { k.Job.Out.ColStep = 0 }, api.ErrTwice},
		{"rows of Out that overlap by one", func(k *api.Task) { k.Job.Out.RowStep = 3 }, api.ErrTwice},
		{"rows of Out that overlap by three", func(k *api.Task) { k.Job.Out.RowStep = 1 }, api.ErrTwice},
		{"rows of Out that overlap, backwards", func(k *api.Task) { k.Job.Out.RowStep, k.Job.Out.Offset = -3, 3 }, api.ErrTwice},
		{"columns of Out against its rows", func(k *api.Task) { k.Job.Out.RowStep, k.Job.Out.ColStep, k.Job.Out.Offset = 2, -1, 3 }, api.ErrTwice},
	}
}

func zeroFaults() []change {
	return slices.Concat(
		numberChanges("LeftZero", func(k *api.Task) *int { return &k.Job.LeftZero }, api.ErrZero, outside...),
		numberChanges("RightZero", func(k *api.Task) *int { return &k.Job.RightZero }, api.ErrZero, outside...),
		numberChanges("OutZero", func(k *api.Task) *int { return &k.Job.OutZero }, api.ErrZero, outside...),
	)
}

func biasFaults() []change {
	all := []change{
		{"no Bias", func(k *api.Task) { k.Job.Bias = nil }, api.ErrBias},
		{"Bias too short by column", func(k *api.Task) { k.Job.Bias = []int{1, 2, 3} }, api.ErrBias},
		{"Bias too long by column", func(k *api.Task) { k.Job.Bias = []int{1, 2, 3, 4, 5} }, api.ErrBias},
		{"Bias by row, as long as the columns", func(k *api.Task) { k.Job.BiasBy = 1 }, api.ErrBias},
		{"Bias by column, as long as the rows", func(k *api.Task) { k.Job.Bias = []int{1, 2} }, api.ErrBias},
		{"Bias too short by row", func(k *api.Task) { k.Job.BiasBy, k.Job.Bias = 1, []int{1} }, api.ErrBias},
		{"Bias too long by row", func(k *api.Task) { k.Job.BiasBy, k.Job.Bias = 1, []int{1, 2, 3} }, api.ErrBias},
		{"wrong Bias by row", func(k *api.Task) { k.Job.BiasBy, k.Job.Bias = 1, []int{1, most + 1} }, api.ErrBias},
	}
	all = append(all, numberChanges("BiasBy", func(k *api.Task) *int { return &k.Job.BiasBy }, api.ErrBias, math.MinInt, -1, 3, 4, 257, 1<<32+2, math.MaxInt)...)
	for i := range 4 {
		all = append(all, change{"wrong Bias by column", func(k *api.Task) { k.Job.Bias = spoiled(k.Job.Bias, i, most+1) }, api.ErrBias})
		all = append(all, change{"wrong Bias by column", func(k *api.Task) { k.Job.Bias = spoiled(k.Job.Bias, i, least-1) }, api.ErrBias})
	}
	return all
}

// spoiled is list with one wrong number, where another change has not made it too short for that.
func spoiled(list []int, place int, wrong int) []int {
	list = append(slices.Clone(list), make([]int, max(0, place+1-len(list)))...)
	list[place] = wrong
	return list
}

func scaleFaults() []change {
	all := []change{
		{"no Factors", func(k *api.Task) { k.Job.Factors = nil }, api.ErrScale},
		{"no Shifts", func(k *api.Task) { k.Job.Shifts = nil }, api.ErrScale},
		{"Factors too short", func(k *api.Task) { k.Job.Factors = []int{1} }, api.ErrScale},
		{"Shifts too short", func(k *api.Task) { k.Job.Shifts = []int{1} }, api.ErrScale},
		{"Factors too long", func(k *api.Task) { k.Job.Factors = []int{1, 2, 3} }, api.ErrScale},
		{"Shifts too long", func(k *api.Task) { k.Job.Shifts = []int{1, 2, 3} }, api.ErrScale},
		{"by row, as long as the columns", func(k *api.Task) { k.Job.Factors, k.Job.Shifts = []int{1, 2, 3, 4}, []int{1, 2, 3, 4} }, api.ErrScale},
		{"one for all, as long as the rows", func(k *api.Task) { k.Job.ScaleBy = 1 }, api.ErrScale},
		{"one for all, two Factors", func(k *api.Task) { k.Job.ScaleBy, k.Job.Shifts = 1, []int{1} }, api.ErrScale},
		{"one for all, two Shifts", func(k *api.Task) { k.Job.ScaleBy, k.Job.Factors = 1, []int{1} }, api.ErrScale},
		{"one for all, none", func(k *api.Task) { k.Job.ScaleBy, k.Job.Factors, k.Job.Shifts = 1, nil, nil }, api.ErrScale},
		{"one for all, wrong Factor", func(k *api.Task) { k.Job.ScaleBy, k.Job.Factors, k.Job.Shifts = 1, []int{least - 1}, []int{1} }, api.ErrScale},
		{"one for all, wrong Shift", func(k *api.Task) { k.Job.ScaleBy, k.Job.Factors, k.Job.Shifts = 1, []int{1}, []int{32} }, api.ErrScale},
		{"one for all, Shift below 0", func(k *api.Task) { k.Job.ScaleBy, k.Job.Factors, k.Job.Shifts = 1, []int{1}, []int{-1} }, api.ErrScale},
	}
	all = append(all, numberChanges("ScaleBy", func(k *api.Task) *int { return &k.Job.ScaleBy }, api.ErrScale, math.MinInt, -1, 3, 4, 257, 1<<32+1, math.MaxInt)...)
	for i := range 2 {
		for _, n := range outside {
			all = append(all, change{"wrong Factor", func(k *api.Task) { k.Job.Factors = spoiled(k.Job.Factors, i, n) }, api.ErrScale})
		}
		for _, n := range wrongShifts {
			all = append(all, change{"wrong Shift", func(k *api.Task) { k.Job.Shifts = spoiled(k.Job.Shifts, i, n) }, api.ErrScale})
		}
	}
	return all
}

func limitFaults() []change {
	return slices.Concat(
		numberChanges("Low", func(k *api.Task) *int { return &k.Job.Low }, api.ErrClamp, outside...),
		numberChanges("High", func(k *api.Task) *int { return &k.Job.High }, api.ErrClamp, outside...),
		[]change{
			{"Low above High", func(k *api.Task) { k.Job.Low, k.Job.High = 1, 0 }, api.ErrClamp},
			{"Low far above High", func(k *api.Task) { k.Job.Low, k.Job.High = most, least }, api.ErrClamp},
			{"Low and High below", func(k *api.Task) { k.Job.Low, k.Job.High = least-2, least-1 }, api.ErrClamp},
			{"Low and High above", func(k *api.Task) { k.Job.Low, k.Job.High = most+1, most+1 }, api.ErrClamp},
		},
	)
}

func workFaults() []change {
	wrong := []int{math.MinInt, -1 << 32, -1, 0, 65, 66, 256, 1<<32 + 1, math.MaxInt}
	return slices.Concat(
		numberChanges("BlockRows", func(k *api.Task) *int { return &k.Job.BlockRows }, api.ErrBlock, wrong...),
		numberChanges("BlockCols", func(k *api.Task) *int { return &k.Job.BlockCols }, api.ErrBlock, wrong...),
		numberChanges("BlockDepth", func(k *api.Task) *int { return &k.Job.BlockDepth }, api.ErrBlock, wrong...),
		numberChanges("Workers", func(k *api.Task) *int { return &k.Job.Workers }, api.ErrWorkers, wrong...),
	)
}

func TestP4EachErrorByItself(t *testing.T) {
	checkTask(t, "nothing changed", fullTask(), api.OK)
	for _, f := range faults() {
		k := fullTask()
		f.turn(&k)
		checkTask(t, f.name, k, f.want)
	}
}

// The numbers of the errors stand in the document's order. The second fault comes first, lest it undo the other one.
func TestP4OfTwoTheFirst(t *testing.T) {
	for _, first := range faults() {
		for _, second := range faults() {
			if first.want >= second.want || mayMend(first, second) {
				continue
			}
			k := fullTask()
			second.turn(&k)
			first.turn(&k)
			checkTask(t, first.name+" and "+second.name, k, first.want)
		}
	}
}

// mayMend holds of a change of sides or steps, with which a view may fit again.
func mayMend(first change, second change) bool {
	return first.want == api.ErrView && (second.want == api.ErrShape || second.want == api.ErrTwice)
}

func TestP4ViewAheadOfShapeAndTwice(t *testing.T) {
	for _, c := range []change{
		{"no Left, shape of Out", func(k *api.Task) { k.Left, k.Job.Out.Rows = nil, 1 }, api.ErrView},
		{"no Out, shape of Left", func(k *api.Task) { k.Out, k.Job.Left.Cols = nil, 1 }, api.ErrView},
		{"Right too long, shape of Left", func(k *api.Task) { k.Right, k.Job.Left.Rows = make([]int, 5001), 1 }, api.ErrView},
		{"a row too many, and another shape", func(k *api.Task) { k.Job.Left.Rows = 3 }, api.ErrView},
		{"Offset of Left, Out twice", func(k *api.Task) { k.Job.Left.Offset, k.Job.Out.RowStep = 1, 0 }, api.ErrView},
		{"Offset of Out, Out twice", func(k *api.Task) { k.Job.Out.Offset, k.Job.Out.RowStep = 8, 0 }, api.ErrView},
		{"Out too long, Out twice", func(k *api.Task) { k.Out, k.Job.Out.RowStep = make([]int, 5001), 0 }, api.ErrView},
		{"shape of Out, Out twice", func(k *api.Task) { k.Job.Out.Cols, k.Job.Out.RowStep = 3, 0 }, api.ErrShape},
		{"element of Right, Out twice", func(k *api.Task) { k.Right[11], k.Job.Out.RowStep = 256, 0 }, api.ErrElement},
	} {
		k := fullTask()
		c.turn(&k)
		checkTask(t, c.name, k, c.want)
	}
}

func TestP4AllAtOnce(t *testing.T) {
	// One fault of each error, mended one by one: the next one in the document's order shows.
	k := fullTask()
	k.Job.Kind, k.Left, k.Job.Out.Cols, k.Right[0], k.Job.Out.RowStep, k.Job.LeftZero = 3, nil, 3, -1, 0, least-1
	k.Job.BiasBy, k.Job.ScaleBy, k.Job.Low, k.Job.BlockDepth, k.Job.Workers = 3, 3, most+1, 0, 0
	for _, c := range []change{
		{"Kind", func(k *api.Task) { k.Job.Kind = api.U8 }, api.ErrKind},
		{"Left", func(k *api.Task) { k.Left = make([]int, 6) }, api.ErrView},
		{"Out.Cols", func(k *api.Task) { k.Job.Out.Cols = 4 }, api.ErrShape},
		{"Right", func(k *api.Task) { k.Right[0] = 0 }, api.ErrElement},
		{"Out.RowStep", func(k *api.Task) { k.Job.Out.RowStep = 4 }, api.ErrTwice},
		{"LeftZero", func(k *api.Task) { k.Job.LeftZero = least }, api.ErrZero},
		{"BiasBy", func(k *api.Task) { k.Job.BiasBy = 2 }, api.ErrBias},
		{"ScaleBy", func(k *api.Task) { k.Job.ScaleBy = 2 }, api.ErrScale},
		{"Low", func(k *api.Task) { k.Job.Low = most }, api.ErrClamp},
		{"BlockDepth", func(k *api.Task) { k.Job.BlockDepth = 64 }, api.ErrBlock},
		{"Workers", func(k *api.Task) { k.Job.Workers = 64 }, api.ErrWorkers},
	} {
		checkTask(t, "before "+c.name+" is mended", k, c.want)
		c.turn(&k)
	}
	checkTask(t, "all mended", k, api.OK)
}

// rights stand just inside a limit, or change what does not matter.
func rights() []change {
	return slices.Concat(rightNumbers(), rightViews(), rightLists())
}

func rightNumbers() []change {
	all := slices.Concat(
		numberChanges("OutKind", func(k *api.Task) *int { return &k.Job.OutKind }, api.OK, api.U8, api.I8, api.I16, api.I32),
		numberChanges("Kind", func(k *api.Task) *int { return &k.Job.Kind }, api.OK, api.U8, api.I8),
		numberChanges("LeftZero", func(k *api.Task) *int { return &k.Job.LeftZero }, api.OK, edges...),
		numberChanges("RightZero", func(k *api.Task) *int { return &k.Job.RightZero }, api.OK, edges...),
		numberChanges("OutZero", func(k *api.Task) *int { return &k.Job.OutZero }, api.OK, edges...),
		numberChanges("Low", func(k *api.Task) *int { return &k.Job.Low }, api.OK, edges...),
		numberChanges("High", func(k *api.Task) *int { return &k.Job.High }, api.OK, edges...),
		numberChanges("BlockRows", func(k *api.Task) *int { return &k.Job.BlockRows }, api.OK, 1, 2, 63, 64),
		numberChanges("BlockCols", func(k *api.Task) *int { return &k.Job.BlockCols }, api.OK, 1, 2, 63, 64),
		numberChanges("BlockDepth", func(k *api.Task) *int { return &k.Job.BlockDepth }, api.OK, 1, 2, 63, 64),
		numberChanges("Workers", func(k *api.Task) *int { return &k.Job.Workers }, api.OK, 1, 2, 63, 64),
		numberChanges("element of Left", func(k *api.Task) *int { return &k.Left[5] }, api.OK, 0, 1, 127, 128, 254, 255),
		numberChanges("element of Right", func(k *api.Task) *int { return &k.Right[11] }, api.OK, 0, 1, 127, 128, 254, 255),
		// What Out holds ahead of the call may be anything.
		numberChanges("Out", func(k *api.Task) *int { return &k.Out[7] }, api.OK, anyNumbers()...),
	)
	for _, x := range edges {
		all = append(all, change{"Low and High the same", func(k *api.Task) { k.Job.Low, k.Job.High = x, x }, api.OK})
	}
	return all
}

func rightViews() []change {
	return []change{
		{"Left as long as may be", func(k *api.Task) { k.Left = make([]int, 5000) }, api.OK},
		{"Right as long as may be", func(k *api.Task) { k.Right = make([]int, 5000) }, api.OK},
		{"Out as long as may be", func(k *api.Task) { k.Out = make([]int, 5000) }, api.OK},
		{"Left at the end of the longest", func(k *api.Task) { k.Left, k.Job.Left.Offset = make([]int, 5000), 4994 }, api.OK},
		{"Out at the end of the longest", func(k *api.Task) { k.Out, k.Job.Out.Offset = make([]int, 5000), 4992 }, api.OK},
		{"the greatest step", func(k *api.Task) { k.Out, k.Job.Out.ColStep, k.Job.Out.RowStep = make([]int, 5000), 1000, 1 }, api.OK},
		{"the least step", func(k *api.Task) { k.Left, k.Job.Left.RowStep, k.Job.Left.Offset = make([]int, 5000), -1000, 1000 }, api.OK},
		{"Left shares all places", func(k *api.Task) { k.Left, k.Job.Left.RowStep, k.Job.Left.ColStep = []int{255}, 0, 0 }, api.OK},
		{"Right shares all places", func(k *api.Task) { k.Right, k.Job.Right.RowStep, k.Job.Right.ColStep = []int{255}, 0, 0 }, api.OK},
		{"rows of Left overlap", func(k *api.Task) { k.Left, k.Job.Left.RowStep = k.Left[:4], 1 }, api.OK},
		{"rows of Right overlap, backwards", func(k *api.Task) { k.Right, k.Job.Right.RowStep, k.Job.Right.Offset = k.Right[:6], -1, 2 }, api.OK},
		{"Out by columns", func(k *api.Task) { k.Job.Out.RowStep, k.Job.Out.ColStep = 1, 2 }, api.OK},
		{"Out backwards", func(k *api.Task) { k.Job.Out.RowStep, k.Job.Out.ColStep, k.Job.Out.Offset = -4, -1, 7 }, api.OK},
		{"Out turned", func(k *api.Task) { k.Job.Out.RowStep, k.Job.Out.ColStep, k.Job.Out.Turned = 2, 1, true }, api.OK},
		{"Left turned", func(k *api.Task) { k.Job.Left.RowStep, k.Job.Left.ColStep, k.Job.Left.Turned = 2, 1, true }, api.OK},
		{"Out woven", func(k *api.Task) { k.Job.Out.RowStep, k.Job.Out.ColStep, k.Out = 3, 2, make([]int, 10) }, api.OK},
	}
}

func rightLists() []change {
	ends := []int{least, most, 0, -1}
	wild := []int{math.MinInt, math.MaxInt, most + 1}
	return []change{
		{"Bias at the ends, by column", func(k *api.Task) { k.Job.Bias = ends }, api.OK},
		{"Bias at the ends, by row", func(k *api.Task) { k.Job.BiasBy, k.Job.Bias = 1, ends[:2] }, api.OK},
		{"Factors and Shifts at the ends", func(k *api.Task) { k.Job.Factors, k.Job.Shifts = ends[:2], []int{0, 31} }, api.OK},
		{"one Factor and Shift for all", func(k *api.Task) { k.Job.ScaleBy, k.Job.Factors, k.Job.Shifts = 1, []int{least}, []int{31} }, api.OK},
		{"Bias does not matter", func(k *api.Task) { k.Job.BiasBy, k.Job.Bias = 0, wild }, api.OK},
		{"Bias does not matter, none", func(k *api.Task) { k.Job.BiasBy, k.Job.Bias = 0, nil }, api.OK},
		{"Bias does not matter, long", func(k *api.Task) { k.Job.BiasBy, k.Job.Bias = 0, make([]int, 9999) }, api.OK},
		{"scale does not matter", func(k *api.Task) { k.Job.ScaleBy, k.Job.Factors, k.Job.Shifts = 0, wild, wild }, api.OK},
		{"scale does not matter, none", func(k *api.Task) { k.Job.ScaleBy, k.Job.Factors, k.Job.Shifts = 0, nil, nil }, api.OK},
		{"scale does not matter, not as long", func(k *api.Task) { k.Job.ScaleBy, k.Job.Factors, k.Job.Shifts = 0, wild[:1], nil }, api.OK},
	}
}

func TestP4Right(t *testing.T) {
	for _, c := range rights() {
		k := fullTask()
		c.turn(&k)
		checkTask(t, c.name, k, c.want)
	}
}

func TestP4ElementsOfI8(t *testing.T) {
	for _, x := range append(anyNumbers(), -130, -129, -128, -127, 126, 127, 128, 129, 255, 256) {
		want := api.ErrElement
		if -128 <= x && x <= 127 {
			want = api.OK
		}
		for place := range 6 {
			k := fullTask()
			k.Job.Kind = api.I8
			k.Left[place] = x
			checkTask(t, "Left", k, want)
			k = fullTask()
			k.Job.Kind = api.I8
			k.Right[place] = x
			checkTask(t, "Right", k, want)
		}
	}
}

func TestP4Example6(t *testing.T) {
	for _, c := range []struct {
		offset, rowStep, colStep int
		want                     api.Errno
	}{
		{5, -2, -1, api.OK}, {3, -2, 2, api.ErrTwice}, {5, -2, 2, api.ErrView},
	} {
		k := simpleTask(2, 2, 2)
		k.Out = []int{9, 9, 9, 9, 9, 9}
		k.Job.Out = api.View{Rows: 2, Cols: 2, Offset: c.offset, RowStep: c.rowStep, ColStep: c.colStep}
		checkTask(t, "example 6", k, c.want)
	}
}

// Without rows or columns there are no places: only sides, steps and the length of the buffer count.
func TestP4NoElements(t *testing.T) {
	for _, offset := range append(anyNumbers(), 5000) {
		for _, sides := range [][3]int{{0, 3, 4}, {2, 0, 4}, {2, 3, 0}, {0, 0, 4}, {0, 3, 0}, {2, 0, 0}, {0, 0, 0}, {0, 24, 24}, {24, 0, 1}} {
			for _, turned := range []bool{false, true} {
				checkNoElements(t, sides, offset, turned)
			}
		}
	}
}

func checkNoElements(t *testing.T, sides [3]int, offset int, turned bool) {
	t.Helper()
	k := simpleTask(sides[0], sides[1], sides[2])
	j := &k.Job
	for _, v := range []struct {
		view   *api.View
		buffer *[]int
	}{{&j.Left, &k.Left}, {&j.Right, &k.Right}, {&j.Out, &k.Out}} {
		if v.view.Rows > 0 && v.view.Cols > 0 {
			continue
		}
		v.view.Offset, v.view.RowStep, v.view.ColStep, v.view.Turned = offset, -1000, 1000, turned
		for _, length := range []int{0, 1, 5000} {
			*v.buffer = make([]int, length)
			checkTask(t, "no elements", k, api.OK)
		}
		*v.buffer = make([]int, 5001)
		checkTask(t, "no elements, but too long", k, api.ErrView)
		*v.buffer = nil
		v.view.RowStep = -1001
		checkTask(t, "no elements, but RowStep", k, api.ErrView)
		v.view.RowStep, v.view.ColStep = 0, 1001
		checkTask(t, "no elements, but ColStep", k, api.ErrView)
		v.view.ColStep = 0
	}
}

// A list by row or column of an Out that has none is empty.
func TestP4ListsWithoutRowsOrColumns(t *testing.T) {
	k := simpleTask(0, 3, 4)
	k.Job.BiasBy, k.Job.ScaleBy = 1, 2
	checkTask(t, "no rows", k, api.OK)
	k.Job.Bias = []int{0}
	checkTask(t, "no rows, a Bias", k, api.ErrBias)
	k.Job.Bias, k.Job.Factors, k.Job.Shifts = []int{}, []int{1}, []int{1}
	checkTask(t, "no rows, a scale", k, api.ErrScale)
	k.Job.ScaleBy = 1
	checkTask(t, "no rows, a scale for all", k, api.OK)
	k.Job.Factors, k.Job.Shifts = nil, nil
	checkTask(t, "no rows, no scale for all", k, api.ErrScale)
	k = simpleTask(2, 3, 0)
	k.Job.BiasBy = 2
	checkTask(t, "no columns", k, api.OK)
	k.Job.Bias = []int{0}
	checkTask(t, "no columns, a Bias", k, api.ErrBias)
}

// What stands behind a list is not part of it.
func TestP4SpareRoom(t *testing.T) {
	k := fullTask()
	k.Left = append(make([]int, 0, 9000), k.Left...)
	checkTask(t, "much spare room", k, api.OK)
	k.Left = k.Left[:5]
	checkTask(t, "a view into the spare room", k, api.ErrView)
	k = fullTask()
	k.Job.Bias = append(k.Job.Bias, 7)[:3]
	checkTask(t, "Bias with spare room", k, api.ErrBias)
	k = fullTask()
	k.Job.Shifts = append(k.Job.Shifts, math.MinInt)[:2]
	checkTask(t, "Shifts with a wrong one behind", k, api.OK)
}
