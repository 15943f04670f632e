// Package plan cuts what comes out into tiles.
package plan

import "tiles/api"

// Tiles are those of a matrix of so many rows and columns, row of tiles by row of tiles; blocks are at least 1.
func Tiles(rows int, cols int, blockRows int, blockCols int) []api.Tile {
	var all []api.Tile
	for row := 0; row < rows; row += blockRows {
		for col := 0; col < cols; col += blockCols {
			all = append(all, api.Tile{
				FromRow: row, ToRow: min(row+blockRows, rows),
				FromCol: col, ToCol: min(col+blockCols, cols),
			})
		}
	}
	return all
}
