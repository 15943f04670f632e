package plan

import (
	"slices"
	"testing"

	"tiles/api"
)

func tile(fromRow int, toRow int, fromCol int, toCol int) api.Tile {
	return api.Tile{FromRow: fromRow, ToRow: toRow, FromCol: fromCol, ToCol: toCol}
}

func TestTiles(t *testing.T) {
	for _, c := range []struct {
		rows, cols, blockRows, blockCols int
		want                             []api.Tile
	}{
		{5, 3, 4, 2, []api.Tile{tile(0, 4, 0, 2), tile(0, 4, 2, 3), tile(4, 5, 0, 2), tile(4, 5, 2, 3)}},
		{4, 2, 2, 2, []api.Tile{tile(0, 2, 0, 2), tile(2, 4, 0, 2)}},
		{2, 2, 64, 64, []api.Tile{tile(0, 2, 0, 2)}},
		{1, 2, 1, 1, []api.Tile{tile(0, 1, 0, 1), tile(0, 1, 1, 2)}},
		{0, 3, 4, 2, nil},
		{5, 0, 4, 2, nil},
	} {
		if got := Tiles(c.rows, c.cols, c.blockRows, c.blockCols); !slices.Equal(got, c.want) {
			t.Errorf("Tiles(%d, %d, %d, %d) = %v, want %v", c.rows, c.cols, c.blockRows, c.blockCols, got, c.want)
		}
	}
}
