// Package finish makes results of sums.
package finish

import (
	"math"

	"tiles/api"
	"tiles/fixed"
	"tiles/rules"
)

// Result is what comes of the sum of a row and a column, in a job that is right.
func Result(j api.Job, row int, col int, sum int32) int {
	// An int32 wraps round: what is added to it is brought to 32 bits by that alone.
	x := sum + bias(j, row, col)
	x = scaled(j, row, x)
	x += int32(j.OutZero)
	return cut(j.OutKind, min(max(int(x), j.Low), j.High))
}

func bias(j api.Job, row int, col int) int32 {
	switch j.BiasBy {
	case rules.BiasByRow:
		return int32(j.Bias[row])
	case rules.BiasByCol:
		return int32(j.Bias[col])
	}
	return 0
}

func scaled(j api.Job, row int, x int32) int32 {
	switch j.ScaleBy {
	case rules.ScaleForAll:
		return scaledBy(x, j.Factors[0], j.Shifts[0])
	case rules.ScaleByRow:
		return scaledBy(x, j.Factors[row], j.Shifts[row])
	}
	return x
}

func scaledBy(x int32, factor int, shift int) int32 {
	return fixed.Shifted(fixed.High(x, int32(factor)), shift)
}

func cut(kind int, x int) int {
	switch kind {
	case api.U8:
		return int(fixed.Cut[uint8](x, 0, math.MaxUint8))
	case api.I8:
		return int(fixed.Cut[int8](x, math.MinInt8, math.MaxInt8))
	case api.I16:
		return int(fixed.Cut[int16](x, math.MinInt16, math.MaxInt16))
	}
	return int(fixed.Cut[int32](x, math.MinInt32, math.MaxInt32))
}
