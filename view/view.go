// Package view finds the places that a view sees in its buffer.
package view

import (
	"iter"

	"tiles/api"
)

// HasSides tells whether Rows and Cols of v are within their limits.
func HasSides(v api.View) bool {
	return isSide(v.Rows) && isSide(v.Cols)
}

func isSide(n int) bool {
	return 0 <= n && n <= api.MaxSide
}

func isStep(n int) bool {
	return -api.MaxStep <= n && n <= api.MaxStep
}

// Fits tells whether v fits a buffer of this length.
func Fits(v api.View, length int) bool {
	if !HasSides(v) || !isStep(v.RowStep) || !isStep(v.ColStep) {
		return false
	}
	return v.Rows == 0 || v.Cols == 0 || liesWithin(v, length)
}

// liesWithin asks for a view that has elements, with sides and steps within their limits.
func liesWithin(v api.View, length int) bool {
	// Places grow or fall evenly along both sides, so the least and the greatest one stand in corners.
	// A far Offset may make the other corners wrap round, but is itself a corner and outside.
	bottom, end := v.Rows-1, v.Cols-1
	across, down, over := Place(v, 0, end), Place(v, bottom, 0), Place(v, bottom, end)
	return min(v.Offset, across, down, over) >= 0 && max(v.Offset, across, down, over) < length
}

// Place is where the element in row i and column j stands.
func Place(v api.View, i int, j int) int {
	if v.Turned {
		i, j = j, i
	}
	return v.Offset + i*v.RowStep + j*v.ColStep
}

// Turn is a view of the same elements, in which rows and columns have changed places.
func Turn(v api.View) api.View {
	v.Rows, v.Cols, v.Turned = v.Cols, v.Rows, !v.Turned
	return v
}

// Places goes through the places of all elements, row by row; one that elements share comes once for each.
func Places(v api.View) iter.Seq[int] {
	return func(yield func(int) bool) {
		for i := range v.Rows {
			for j := range v.Cols {
				if !yield(Place(v, i, j)) {
					return
				}
			}
		}
	}
}
