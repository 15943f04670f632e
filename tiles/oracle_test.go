package tiles_test

import (
	"math/big"
	"math/rand"
	"testing"

	"tiles/api"
	"tiles/tiles"
)

// wantPlaces works out every place by itself, in numbers that have no limits; nil if one is not in the buffer.
func wantPlaces(v api.View, length int) []int {
	places := []int{}
	for i := range v.Rows {
		for j := range v.Cols {
			down, across := i, j
			if v.Turned {
				down, across = j, i
			}
			place := big.NewInt(int64(v.Offset))
			place.Add(place, new(big.Int).Mul(big.NewInt(int64(down)), big.NewInt(int64(v.RowStep))))
			place.Add(place, new(big.Int).Mul(big.NewInt(int64(across)), big.NewInt(int64(v.ColStep))))
			if place.Sign() < 0 || place.Cmp(big.NewInt(int64(length))) >= 0 {
				return nil
			}
			places = append(places, int(place.Int64()))
		}
	}
	return places
}

func within(n int, low int, high int) bool {
	return n >= low && n <= high
}

func wantFits(v api.View, length int) bool {
	if !within(v.Rows, 0, 24) || !within(v.Cols, 0, 24) || !within(v.RowStep, -1000, 1000) || !within(v.ColStep, -1000, 1000) {
		return false
	}
	return wantPlaces(v, length) != nil
}

func wantTwice(v api.View, length int) bool {
	times := map[int]int{}
	for _, place := range wantPlaces(v, length) {
		times[place]++
	}
	for _, n := range times {
		if n > 1 {
			return true
		}
	}
	return false
}

// lookedAt holds a task with one view in question, and what its view sees.
type lookedAt struct {
	name string
	task api.Task
	view *api.View
	list *[]int
}

// lookAt makes v the view in question of Left, of Right and of Out, in tasks that are right but for it.
func lookAt(v api.View, length int) []*lookedAt {
	left, right, out := simpleTask(0, 0, 0), simpleTask(0, 0, 0), simpleTask(0, 0, 0)
	if within(v.Rows, 0, 24) && within(v.Cols, 0, 24) {
		left, right, out = simpleTask(v.Rows, v.Cols, 3), simpleTask(2, v.Rows, v.Cols), simpleTask(v.Rows, 2, v.Cols)
	}
	all := []*lookedAt{{name: "Left", task: left}, {name: "Right", task: right}, {name: "Out", task: out}}
	all[0].view, all[0].list = &all[0].task.Job.Left, &all[0].task.Left
	all[1].view, all[1].list = &all[1].task.Job.Right, &all[1].task.Right
	all[2].view, all[2].list = &all[2].task.Job.Out, &all[2].task.Out
	for _, one := range all {
		*one.view, *one.list = v, make([]int, length)
	}
	return all
}

func checkView(t *testing.T, v api.View, length int) {
	t.Helper()
	for _, one := range lookAt(v, length) {
		want := api.OK
		if !wantFits(v, length) {
			want = api.ErrView
		} else if one.name == "Out" && wantTwice(v, length) {
			want = api.ErrTwice
		}
		checkTask(t, one.name, one.task, want)
	}
}

// TestP4SmallViews tries all small views about all small buffers.
func TestP4SmallViews(t *testing.T) {
	for rows := range 4 {
		for cols := range 4 {
			for rowStep := -4; rowStep <= 4; rowStep++ {
				for colStep := -4; colStep <= 4; colStep++ {
					for offset := -1; offset <= 9; offset++ {
						for _, turned := range []bool{false, true} {
							v := api.View{Rows: rows, Cols: cols, Offset: offset, RowStep: rowStep, ColStep: colStep, Turned: turned}
							checkView(t, v, 9)
						}
					}
				}
			}
		}
	}
}

// TestP4SnugViews lays views so that they just reach both ends of their buffer, and then one place further.
func TestP4SnugViews(t *testing.T) {
	r := rand.New(rand.NewSource(4))
	for range 2000 {
		v := api.View{Rows: 1 + r.Intn(24), Cols: 1 + r.Intn(24), Turned: r.Intn(2) == 0}
		v.RowStep, v.ColStep = r.Intn(201)-100, r.Intn(201)-100
		low, high := reach(v)
		length := high - low + 1
		if length > 5000 {
			continue
		}
		for _, c := range []struct {
			offset, length int
			fits           bool
		}{{-low, length, true}, {-low - 1, length, false}, {-low + 1, length, false}, {-low, length - 1, false}} {
			v.Offset = c.offset
			if wantFits(v, c.length) != c.fits {
				t.Fatalf("the test itself is wrong: %+v, %d", v, c.length)
			}
			checkView(t, v, c.length)
		}
	}
}

// TestP4WildViews takes sides, steps and offsets of every sort.
func TestP4WildViews(t *testing.T) {
	r := rand.New(rand.NewSource(5))
	wild := anyNumbers()
	pick := func(usual int) int {
		if r.Intn(8) == 0 {
			return wild[r.Intn(len(wild))]
		}
		return usual
	}
	for range 20000 {
		v := api.View{
			Rows: pick(r.Intn(26)), Cols: pick(r.Intn(26)), Offset: pick(r.Intn(5002)),
			RowStep: pick(r.Intn(60) - 30), ColStep: pick(r.Intn(60) - 30), Turned: r.Intn(2) == 0,
		}
		checkView(t, v, []int{0, 1, 100, 600, 5000}[r.Intn(5)])
	}
}

// What a view does not see does not matter; each element that Left or Right sees does.
func TestP4OnlyWhatIsSeen(t *testing.T) {
	r := rand.New(rand.NewSource(6))
	for range 200 {
		v := api.View{Rows: r.Intn(5), Cols: r.Intn(5), Offset: r.Intn(40), RowStep: r.Intn(15) - 7, ColStep: r.Intn(15) - 7, Turned: r.Intn(2) == 0}
		if wantFits(v, 40) && !wantTwice(v, 40) {
			checkSeen(t, v, 40)
		}
	}
}

func checkSeen(t *testing.T, v api.View, length int) {
	t.Helper()
	seen := make([]bool, length)
	for _, place := range wantPlaces(v, length) {
		seen[place] = true
	}
	for _, one := range lookAt(v, length) {
		for place := range length {
			want := api.OK
			if seen[place] && one.name != "Out" {
				want = api.ErrElement
			}
			(*one.list)[place] = 256
			checkTask(t, one.name, one.task, want)
			(*one.list)[place] = 0
		}
	}
}

func TestP1WildTasks(t *testing.T) {
	r := rand.New(rand.NewSource(9))
	all := faults()
	for range 20000 {
		k := fullTask()
		// Lists that one change makes shorter are not there for another one to write into.
		for range r.Intn(5) {
			f := all[r.Intn(len(all))]
			if f.want != api.ErrElement {
				f.turn(&k)
			}
		}
		checkEmptyWithError(t, k.Job, k.Left)
		tiles.Check(k.Job, k.Left, k.Right, k.Out)
		tiles.Multiply(k.Job, k.Left, k.Right, k.Out)
	}
}
