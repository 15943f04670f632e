package work

import (
	"slices"
	"testing"

	"tiles/api"
)

func TestDo(t *testing.T) {
	j := api.Job{
		Left:  api.View{Rows: 2, Cols: 2, RowStep: 2, ColStep: 1},
		Right: api.View{Rows: 2, Cols: 2, RowStep: 2, ColStep: 1},
		Out:   api.View{Rows: 2, Cols: 2, Offset: 5, RowStep: -2, ColStep: -1}, OutKind: api.I32,
		Low: -api.Int32, High: api.Int32 - 1, BlockDepth: 1,
	}
	for _, kind := range []int{api.U8, api.I8} {
		for block := 1; block <= 3; block++ {
			for workers := 1; workers <= 5; workers++ {
				j.Kind, j.BlockRows, j.BlockCols, j.Workers = kind, block, block, workers
				out := []int{9, 9, 9, 9, 9, 9}
				new(Crew).Do(j, []int{1, 2, 3, 4}, []int{5, 6, 7, 8}, out)
				if !slices.Equal(out, []int{9, 9, 50, 43, 22, 19}) {
					t.Errorf("kind %d, blocks %d, workers %d: %v", kind, block, workers, out)
				}
			}
		}
	}
}

// The same eight bits mean other numbers in the other kind.
func TestDoTakesTheKind(t *testing.T) {
	j := api.Job{
		Left: api.View{Rows: 1, Cols: 1}, Right: api.View{Rows: 1, Cols: 1},
		Out: api.View{Rows: 1, Cols: 1}, OutKind: api.I32,
		Low: -api.Int32, High: api.Int32 - 1, BlockRows: 1, BlockCols: 1, BlockDepth: 1, Workers: 1,
	}
	for _, c := range []struct{ kind, element, want int }{{api.U8, 255, 255}, {api.I8, -1, -1}} {
		out := []int{0}
		j.Kind = c.kind
		new(Crew).Do(j, []int{c.element}, []int{1}, out)
		if out[0] != c.want {
			t.Errorf("kind %d: %d times 1 is %d", c.kind, c.element, out[0])
		}
	}
}

func TestDoWithoutTiles(t *testing.T) {
	out := []int{1, 2, 3}
	new(Crew).Do(api.Job{Kind: api.U8, BlockRows: 1, BlockCols: 1, BlockDepth: 1, Workers: 64}, nil, nil, out)
	if !slices.Equal(out, []int{1, 2, 3}) {
		t.Errorf("without tiles: %v", out)
	}
}

// square multiplies a matrix of n rows and columns by itself, cell by cell.
func square(kind int, n int, workers int) api.Job {
	v := api.View{Rows: n, Cols: n, RowStep: n, ColStep: 1}
	return api.Job{
		Kind: kind, Left: v, Right: v, Out: v, OutKind: api.I32,
		Low: -api.Int32, High: api.Int32 - 1, BlockRows: 1, BlockCols: 1, BlockDepth: n, Workers: workers,
	}
}

func full(n int, with int) []int {
	list := make([]int, n*n)
	for i := range list {
		list[i] = with
	}
	return list
}

// checkSquares has one crew do squares of the given sides, with these workers, of both kinds in turn.
func checkSquares(t *testing.T, crew *Crew, sides []int, workers []int) {
	t.Helper()
	for _, n := range sides {
		for _, w := range workers {
			for _, c := range []struct{ kind, element int }{{api.U8, 200}, {api.I8, -100}} {
				out := full(n, 9)
				crew.Do(square(c.kind, n, w), full(n, c.element), full(n, c.element), out)
				if want := full(n, n*c.element*c.element); !slices.Equal(out, want) {
					t.Errorf("kind %d, side %d, workers %d: %v, want %v", c.kind, n, w, out, want)
				}
			}
		}
	}
}

func TestCrewDoesJobAfterJob(t *testing.T) {
	checkSquares(t, new(Crew), []int{24, 1, 3, 24, 2, 7, 1}, []int{64, 1, 5, 2, 63, 64})
	checkSquares(t, new(Crew), []int{1, 2, 3, 5, 24}, []int{1, 2, 3, 64})
}

// What one kind of job has used serves the next one of that kind, whether that needs more or less.
func TestCrewUsesItsScratchAgain(t *testing.T) {
	crew := new(Crew)
	checkSquares(t, crew, []int{3}, []int{4})
	unsigned, signed := slices.Clone(crew.unsigned), slices.Clone(crew.signed)
	if len(unsigned) != 4 || len(signed) != 4 {
		t.Fatalf("4 workers have left scratch for %d and %d", len(unsigned), len(signed))
	}
	for _, c := range []struct{ workers, want int }{{1, 4}, {4, 4}, {6, 6}, {2, 6}, {64, 9}} {
		checkSquares(t, crew, []int{3}, []int{c.workers})
		if len(crew.unsigned) != c.want || len(crew.signed) != c.want {
			t.Errorf("%d workers: scratch for %d and %d, want %d", c.workers, len(crew.unsigned), len(crew.signed), c.want)
		}
		if !slices.Equal(crew.unsigned[:4], unsigned) || !slices.Equal(crew.signed[:4], signed) {
			t.Errorf("%d workers: scratch is made anew", c.workers)
		}
	}
}
