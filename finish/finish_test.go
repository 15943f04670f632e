package finish

import (
	"math"
	"testing"

	"tiles/api"
)

func plainJob() api.Job {
	return api.Job{OutKind: api.I32, Low: math.MinInt32, High: math.MaxInt32}
}

func TestResult(t *testing.T) {
	for _, c := range []struct {
		name string
		turn func(j *api.Job)
		sum  int32
		want int
	}{
		{"nothing", func(j *api.Job) {}, -40000, -40000},
		{"bias by row", func(j *api.Job) { j.BiasBy, j.Bias = 1, []int{1, 10} }, 7, 17},
		{"bias by column", func(j *api.Job) { j.BiasBy, j.Bias = 2, []int{1, 10, 100} }, 7, 107},
		{"bias, to 32 bits", func(j *api.Job) { j.BiasBy, j.Bias = 1, []int{0, math.MaxInt32} }, 1, math.MinInt32},
		{"scale for all", func(j *api.Job) { j.ScaleBy, j.Factors, j.Shifts = 1, []int{1 << 30}, []int{3} }, 40000, 2500},
		{"scale by row", func(j *api.Job) { j.ScaleBy, j.Factors, j.Shifts = 2, []int{0, -1 << 30}, []int{0, 1} }, 30, -8},
		{"OutZero", func(j *api.Job) { j.OutZero = -5 }, 3, -2},
		{"OutZero, to 32 bits", func(j *api.Job) { j.OutZero = math.MinInt32 }, -1, math.MaxInt32},
		{"Low", func(j *api.Job) { j.Low = 4 }, 3, 4},
		{"High", func(j *api.Job) { j.High = 2 }, 3, 2},
		{"U8, below", func(j *api.Job) { j.OutKind = api.U8 }, -1, 0},
		{"U8, above", func(j *api.Job) { j.OutKind = api.U8 }, 256, 255},
		{"I8, below", func(j *api.Job) { j.OutKind = api.I8 }, -129, -128},
		{"I8, above", func(j *api.Job) { j.OutKind = api.I8 }, 128, 127},
		{"I16, below", func(j *api.Job) { j.OutKind = api.I16 }, -32769, -32768},
		{"I16, above", func(j *api.Job) { j.OutKind = api.I16 }, 32768, 32767},
		{"I32, the least", func(j *api.Job) {}, math.MinInt32, math.MinInt32},
		{"I32, the greatest", func(j *api.Job) {}, math.MaxInt32, math.MaxInt32},
		{"one behind the other", func(j *api.Job) {
			j.BiasBy, j.Bias, j.OutZero, j.High, j.OutKind = 2, []int{0, 0, 100}, -7, 200, api.I8
			j.ScaleBy, j.Factors, j.Shifts = 1, []int{1 << 30}, []int{1}
		}, 300, 93},
	} {
		j := plainJob()
		c.turn(&j)
		if got := Result(j, 1, 2, c.sum); got != c.want {
			t.Errorf("%s: Result of %d = %d, want %d", c.name, c.sum, got, c.want)
		}
	}
}
