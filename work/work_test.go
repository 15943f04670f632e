package work

import (
	"slices"
	"testing"

	"tiles/api"
)

func TestDo(t *testing.T) {
	j := api.Job{
		Left:  api.View{Rows: 2, Cols: 2, RowStep: 2, ColStep: 1},
		Right: api.View{Rows: 2, Cols: 2, RowStep: 2, ColStep: 1},
		Out:   api.View{Rows: 2, Cols: 2, Offset: 5, RowStep: -2, ColStep: -1}, OutKind: api.I32,
		Low: -api.Int32, High: api.Int32 - 1, BlockDepth: 1,
	}
	for _, kind := range []int{api.U8, api.I8} {
		for block := 1; block <= 3; block++ {
			for workers := 1; workers <= 5; workers++ {
				j.Kind, j.BlockRows, j.BlockCols, j.Workers = kind, block, block, workers
				out := []int{9, 9, 9, 9, 9, 9}
				Do(j, []int{1, 2, 3, 4}, []int{5, 6, 7, 8}, out)
				if !slices.Equal(out, []int{9, 9, 50, 43, 22, 19}) {
					t.Errorf("kind %d, blocks %d, workers %d: %v", kind, block, workers, out)
				}
			}
		}
	}
}

// The same eight bits mean other numbers in the other kind.
func TestDoTakesTheKind(t *testing.T) {
	j := api.Job{
		Left: api.View{Rows: 1, Cols: 1}, Right: api.View{Rows: 1, Cols: 1},
		Out: api.View{Rows: 1, Cols: 1}, OutKind: api.I32,
		Low: -api.Int32, High: api.Int32 - 1, BlockRows: 1, BlockCols: 1, BlockDepth: 1, Workers: 1,
	}
	for _, c := range []struct{ kind, element, want int }{{api.U8, 255, 255}, {api.I8, -1, -1}} {
		out := []int{0}
		j.Kind = c.kind
		Do(j, []int{c.element}, []int{1}, out)
		if out[0] != c.want {
			t.Errorf("kind %d: %d times 1 is %d", c.kind, c.element, out[0])
		}
	}
}

func TestDoWithoutTiles(t *testing.T) {
	out := []int{1, 2, 3}
	Do(api.Job{Kind: api.U8, BlockRows: 1, BlockCols: 1, BlockDepth: 1, Workers: 64}, nil, nil, out)
	if !slices.Equal(out, []int{1, 2, 3}) {
		t.Errorf("without tiles: %v", out)
	}
}
