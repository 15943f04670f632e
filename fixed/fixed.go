// Package fixed does the arithmetic of numbers that are kept in few bits.
package fixed

import "math"

// Kind is the Go type of one of the four kinds of elements.
type Kind interface {
	uint8 | int8 | int16 | int32
}

// maxShift stands here, since package api does not name it.
const maxShift = 31

// Is tells whether x is of the kind K.
func Is[K Kind](x int) bool {
	// What is not of K changes when it is brought to so few bits.
	return int(K(x)) == x
}

// IsShift tells whether a number may be shifted by e.
func IsShift(e int) bool {
	return 0 <= e && e <= maxShift
}

// Cut cuts x to the kind K, whose limits are least and most.
func Cut[K Kind](x int, least K, most K) K {
	return K(min(max(x, int(least)), int(most)))
}

// High is the high product of a and b.
func High(a int32, b int32) int32 {
	const half = 1 << 30
	// The shift rounds down, below 0 too; so with a half added a tie goes to the greater number.
	nearest := (int(a)*int(b) + half) >> 31
	// Only the least number times itself lies outside.
	return Cut[int32](nearest, math.MinInt32, math.MaxInt32)
}

// Shifted is x shifted by e, of which IsShift holds.
func Shifted(x int32, e int) int32 {
	// An int has room for the least number without its sign, and for the half.
	if x < 0 {
		return int32(-shiftedUp(-int(x), e))
	}
	return int32(shiftedUp(int(x), e))
}

// shiftedUp shifts an x that is not below 0; there, further from 0 is up.
func shiftedUp(x int, e int) int {
	// By 0 there is no half: 1 >> 1 is 0.
	half := 1 << e >> 1
	return (x + half) >> e
}
