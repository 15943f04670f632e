// Package rules tells whether a job is right for its buffers.
package rules

import (
	"tiles/api"
	"tiles/fixed"
	"tiles/view"
)

// What BiasBy may be.
const (
	NoBias    = 0
	BiasByRow = 1
	BiasByCol = 2
)

// What ScaleBy may be.
const (
	NoScale     = 0
	ScaleForAll = 1
	ScaleByRow  = 2
)

// First is the first error of a job, or OK.
func First(j api.Job, left []int, right []int, out []int) api.Errno {
	// Besides being the document's, this order lets each question rely on the answers ahead of it:
	// elements and places are looked up only where the views fit.
	switch {
	case !kindsAreRight(j):
		return api.ErrKind
	case !viewsFit(j, left, right, out):
		return api.ErrView
	case !shapesGoTogether(j):
		return api.ErrShape
	case !elementsAreOfKind(j, left, right):
		return api.ErrElement
	case sharesAPlace(j.Out, len(out)):
		return api.ErrTwice
	case !zerosAreRight(j):
		return api.ErrZero
	case !biasIsRight(j):
		return api.ErrBias
	case !scaleIsRight(j):
		return api.ErrScale
	case !limitsAreRight(j):
		return api.ErrClamp
	case !BlocksAreRight(j):
		return api.ErrBlock
	case j.Workers < 1 || j.Workers > api.MaxWorkers:
		return api.ErrWorkers
	}
	return api.OK
}

func kindsAreRight(j api.Job) bool {
	if j.Kind != api.U8 && j.Kind != api.I8 {
		return false
	}
	switch j.OutKind {
	case api.U8, api.I8, api.I16, api.I32:
		return true
	}
	return false
}

func viewsFit(j api.Job, left []int, right []int, out []int) bool {
	return fits(j.Left, left) && fits(j.Right, right) && fits(j.Out, out)
}

func fits(v api.View, buffer []int) bool {
	return len(buffer) <= api.MaxBuffer && view.Fits(v, len(buffer))
}

func shapesGoTogether(j api.Job) bool {
	return j.Left.Cols == j.Right.Rows && j.Out.Rows == j.Left.Rows && j.Out.Cols == j.Right.Cols
}

func elementsAreOfKind(j api.Job, left []int, right []int) bool {
	if j.Kind == api.U8 {
		return seesOnly[uint8](j.Left, left) && seesOnly[uint8](j.Right, right)
	}
	return seesOnly[int8](j.Left, left) && seesOnly[int8](j.Right, right)
}

func seesOnly[K fixed.Kind](v api.View, buffer []int) bool {
	for place := range view.Places(v) {
		if !fixed.Is[K](buffer[place]) {
			return false
		}
	}
	return true
}

func sharesAPlace(v api.View, length int) bool {
	taken := make([]bool, length)
	for place := range view.Places(v) {
		if taken[place] {
			return true
		}
		taken[place] = true
	}
	return false
}

func zerosAreRight(j api.Job) bool {
	return areI32(j.LeftZero, j.RightZero, j.OutZero)
}

func areI32(numbers ...int) bool {
	return all(numbers, fixed.Is[int32])
}

func all(numbers []int, holds func(int) bool) bool {
	for _, x := range numbers {
		if !holds(x) {
			return false
		}
	}
	return true
}

func biasIsRight(j api.Job) bool {
	switch j.BiasBy {
	case NoBias:
		return true
	case BiasByRow:
		return len(j.Bias) == j.Out.Rows && areI32(j.Bias...)
	case BiasByCol:
		return len(j.Bias) == j.Out.Cols && areI32(j.Bias...)
	}
	return false
}

func scaleIsRight(j api.Job) bool {
	switch j.ScaleBy {
	case NoScale:
		return true
	case ScaleForAll:
		return hasScales(j, 1)
	case ScaleByRow:
		return hasScales(j, j.Out.Rows)
	}
	return false
}

func hasScales(j api.Job, n int) bool {
	return len(j.Factors) == n && len(j.Shifts) == n && areI32(j.Factors...) && all(j.Shifts, fixed.IsShift)
}

func limitsAreRight(j api.Job) bool {
	return areI32(j.Low, j.High) && j.Low <= j.High
}

// BlocksAreRight tells whether all three sides of a block are within their limits.
func BlocksAreRight(j api.Job) bool {
	return isBlock(j.BlockRows) && isBlock(j.BlockCols) && isBlock(j.BlockDepth)
}

func isBlock(n int) bool {
	return 1 <= n && n <= api.MaxBlock
}
