// Package tiles multiplies matrices of small whole numbers, block by block: see DOC.md.
package tiles

import (
	"tiles/api"
	"tiles/fixed"
	"tiles/plan"
	"tiles/rules"
	"tiles/view"
	"tiles/work"
)

// High tells the high product (P3).
func High(a int, b int) (int, api.Errno) {
	if !fixed.Is[int32](a) || !fixed.Is[int32](b) {
		return 0, api.ErrZero
	}
	return int(fixed.High(int32(a), int32(b))), api.OK
}

// Shifted shifts a number (P3).
func Shifted(x int, e int) (int, api.Errno) {
	if !fixed.Is[int32](x) {
		return 0, api.ErrZero
	}
	if !fixed.IsShift(e) {
		return 0, api.ErrScale
	}
	return int(fixed.Shifted(int32(x), e)), api.OK
}

// Check tells whether a job is right (P4).
func Check(j api.Job, left []int, right []int, out []int) api.Errno {
	return rules.First(j, left, right, out)
}

// Plan cuts what comes out into tiles (P5).
func Plan(j api.Job) ([]api.Tile, api.Errno) {
	if !view.HasSides(j.Out) {
		return nil, api.ErrView
	}
	if !rules.BlocksAreRight(j) {
		return nil, api.ErrBlock
	}
	return plan.Tiles(j.Out.Rows, j.Out.Cols, j.BlockRows, j.BlockCols), api.OK
}

// Multiply does a job (P6).
func Multiply(j api.Job, left []int, right []int, out []int) ([]int, api.Errno) {
	result := do(new(work.Crew), api.Task{Job: j, Left: left, Right: right, Out: out})
	return result.Out, result.Code
}

// Many does tasks, one behind the other (P8).
func Many(tasks []api.Task) []api.Result {
	// One crew for all of them, so that scratch is made once and not for each task.
	crew := new(work.Crew)
	results := make([]api.Result, len(tasks))
	for i, task := range tasks {
		results[i] = do(crew, task)
	}
	return results
}

func do(crew *work.Crew, t api.Task) api.Result {
	if code := Check(t.Job, t.Left, t.Right, t.Out); code != api.OK {
		return api.Result{Code: code}
	}
	out := make([]int, len(t.Out))
	copy(out, t.Out)
	crew.Do(t.Job, t.Left, t.Right, out)
	return api.Result{Out: out, Code: api.OK}
}
