package view

import (
	"math"
	"slices"
	"testing"

	"tiles/api"
)

func TestPlaces(t *testing.T) {
	for _, c := range []struct {
		v    api.View
		want []int
	}{
		{api.View{Rows: 2, Cols: 3, Offset: 1, RowStep: 10, ColStep: 2}, []int{1, 3, 5, 11, 13, 15}},
		{api.View{Rows: 2, Cols: 3, Offset: 1, RowStep: 10, ColStep: 2, Turned: true}, []int{1, 11, 21, 3, 13, 23}},
		{api.View{Rows: 2, Cols: 2, Offset: 5, RowStep: -2, ColStep: -1}, []int{5, 4, 3, 2}},
		{api.View{Rows: 2, Cols: 2, Offset: 7}, []int{7, 7, 7, 7}},
		{api.View{Rows: 0, Cols: 2, Offset: 7}, nil},
		{api.View{Rows: 2, Cols: 0, Offset: 7, Turned: true}, nil},
	} {
		if got := slices.Collect(Places(c.v)); !slices.Equal(got, c.want) {
			t.Errorf("Places(%+v) = %v, want %v", c.v, got, c.want)
		}
	}
}

func TestPlacesMayStopEarly(t *testing.T) {
	n := 0
	for range Places(api.View{Rows: 3, Cols: 3}) {
		n++
		if n == 4 {
			break
		}
	}
	if n != 4 {
		t.Errorf("%d places, want 4", n)
	}
}

func TestTurn(t *testing.T) {
	for _, turned := range []bool{false, true} {
		v := api.View{Rows: 2, Cols: 3, Offset: 1, RowStep: 10, ColStep: 2, Turned: turned}
		other := Turn(v)
		if other.Rows != 3 || other.Cols != 2 || Turn(other) != v {
			t.Errorf("Turn(%+v) = %+v", v, other)
		}
		for i := range v.Rows {
			for j := range v.Cols {
				if got, want := Place(other, j, i), Place(v, i, j); got != want {
					t.Errorf("Turn(%+v): row %d, column %d stands at %d, want %d", v, j, i, got, want)
				}
			}
		}
	}
}

func TestFits(t *testing.T) {
	for _, c := range []struct {
		v      api.View
		length int
		want   bool
	}{
		{api.View{Rows: 2, Cols: 3, RowStep: 3, ColStep: 1}, 6, true},
		{api.View{Rows: 2, Cols: 3, RowStep: 3, ColStep: 1}, 5, false},
		{api.View{Rows: 2, Cols: 3, RowStep: 3, ColStep: 1, Turned: true}, 8, true},
		{api.View{Rows: 2, Cols: 3, RowStep: 3, ColStep: 1, Turned: true}, 7, false},
		{api.View{Rows: 2, Cols: 3, Offset: 2, RowStep: 3, ColStep: -1}, 6, true},
		{api.View{Rows: 2, Cols: 3, Offset: 1, RowStep: 3, ColStep: -1}, 6, false},
		{api.View{Rows: 24, Cols: 24}, 1, true},
		{api.View{Rows: 24, Cols: 24}, 0, false},
		{api.View{Rows: 25, Cols: 24}, 1, false},
		{api.View{Rows: 0, Cols: 24, Offset: math.MaxInt, RowStep: 1000, ColStep: -1000}, 0, true},
		{api.View{Rows: 0, Cols: 24, RowStep: 1001}, 5, false},
		{api.View{Rows: 1, Cols: 1, Offset: math.MaxInt}, 5, false},
		{api.View{Rows: 2, Cols: 2, Offset: math.MaxInt, RowStep: 1, ColStep: 1}, 5, false},
		{api.View{Rows: 2, Cols: 2, Offset: math.MinInt, RowStep: -1, ColStep: -1}, 5, false},
	} {
		if got := Fits(c.v, c.length); got != c.want {
			t.Errorf("Fits(%+v, %d) = %t, want %t", c.v, c.length, got, c.want)
		}
	}
}
