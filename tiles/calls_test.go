package tiles_test

import (
	"math"
	"reflect"
	"slices"
	"testing"

	"tiles/api"
	"tiles/tiles"
)

// anyNumbers holds right and wrong numbers and shifts of every sort.
func anyNumbers() []int {
	return slices.Concat(edges, outside, wrongShifts, []int{4, 8, 15, 16, 29, 30, 31})
}

func TestP1Numbers(t *testing.T) {
	for _, a := range anyNumbers() {
		for _, b := range anyNumbers() {
			if x, e := tiles.High(a, b); e != api.OK && x != 0 {
				t.Errorf("High(%d, %d) = %d with the error %d", a, b, x, e)
			}
			if x, e := tiles.Shifted(a, b); e != api.OK && x != 0 {
				t.Errorf("Shifted(%d, %d) = %d with the error %d", a, b, x, e)
			}
		}
	}
}

// wildJob has the number n wherever a job has one.
func wildJob(n int, turned bool) api.Job {
	v := api.View{Rows: n, Cols: n, Offset: n, RowStep: n, ColStep: n, Turned: turned}
	return api.Job{
		Kind: n, Left: v, Right: v, LeftZero: n, RightZero: n, Out: v, OutKind: n,
		BiasBy: n, Bias: []int{n}, ScaleBy: n, Factors: []int{n}, Shifts: []int{n},
		OutZero: n, Low: n, High: n, BlockRows: n, BlockCols: n, BlockDepth: n, Workers: n,
	}
}

func TestP1Jobs(t *testing.T) {
	for _, n := range append(anyNumbers(), math.MinInt, math.MaxInt) {
		for _, buffer := range [][]int{nil, {}, {n}, {n, n, n, n}} {
			for _, turned := range []bool{false, true} {
				checkEmptyWithError(t, wildJob(n, turned), buffer)
			}
		}
	}
	tiles.Many(nil)
}

func checkEmptyWithError(t *testing.T, j api.Job, buffer []int) {
	t.Helper()
	tiles.Check(j, buffer, buffer, buffer)
	if plan, e := tiles.Plan(j); e != api.OK && len(plan) != 0 {
		t.Errorf("Plan(%+v) has tiles with the error %d", j, e)
	}
	if out, e := tiles.Multiply(j, buffer, buffer, buffer); e != api.OK && len(out) != 0 {
		t.Errorf("Multiply(%+v) has numbers with the error %d", j, e)
	}
	for _, r := range tiles.Many([]api.Task{{Job: j, Left: buffer, Right: buffer, Out: buffer}}) {
		if r.Code != api.OK && len(r.Out) != 0 {
			t.Errorf("Many(%+v) has numbers with the error %d", j, r.Code)
		}
	}
}

type answer struct {
	number int
	code   api.Errno
}

type question struct {
	high bool
	a, b int
}

func ask(q question) answer {
	if q.high {
		x, e := tiles.High(q.a, q.b)
		return answer{x, e}
	}
	x, e := tiles.Shifted(q.a, q.b)
	return answer{x, e}
}

func questions() []question {
	var all []question
	for _, a := range anyNumbers() {
		for _, b := range anyNumbers() {
			all = append(all, question{true, a, b}, question{false, a, b})
		}
	}
	return all
}

func TestP2SameAgainBehindOthers(t *testing.T) {
	checkSameAgain(t, questions(), ask)
}

func checkSameAgain[Q any, A any](t *testing.T, all []Q, ask func(Q) A) {
	t.Helper()
	first := make([]A, len(all))
	for i, q := range all {
		first[i] = ask(q)
	}
	// Backwards, so that each call stands behind other ones than before.
	for i, q := range slices.Backward(all) {
		if again := ask(q); !reflect.DeepEqual(again, first[i]) {
			t.Errorf("%+v answers %+v, then %+v", q, first[i], again)
		}
		if again := ask(q); !reflect.DeepEqual(again, first[i]) {
			t.Errorf("%+v twice in a row answers %+v, then %+v", q, first[i], again)
		}
	}
}
