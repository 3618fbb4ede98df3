// Package times is layer 1: times by their digits. See shared/doc/01-times.md.
package times

import (
	"iter"

	"verge/api"
)

const (
	digitBits = 6
	digitMask = 1<<digitBits - 1
	levels    = 11 // 64 bits by 6: the highest digit has only 4 of them
)

// each tells a time's digits one by one, with their levels, from the level 0 on.
func each(t uint64) iter.Seq2[int, int] {
	return func(yield func(int, int) bool) {
		for level := range levels {
			if !yield(level, Digit(t, level)) {
				return
			}
		}
	}
}

// Digit is one of a time's digits.
func Digit(t uint64, level int) int {
	if level < 0 || level >= levels {
		return 0
	}
	return int(t >> (digitBits * level) & digitMask)
}

// Digits are all.
func Digits(t uint64) []int {
	l := make([]int, 0, levels)
	for _, d := range each(t) {
		l = append(l, d)
	}
	return l
}

// Apart is the highest level at which two times differ.
func Apart(a, b uint64) int {
	highest := -1
	// A digit of a ^ b is 0 just where a and b have the same one.
	for level, d := range each(a ^ b) {
		if d != 0 {
			highest = level
		}
	}
	return highest
}

// Zeros is how many of the lowest digits are 0.
func Zeros(t uint64) int {
	for level, d := range each(t) {
		if d != 0 {
			return level
		}
	}
	return levels
}

// Cut is a time without its digits below a level.
func Cut(t uint64, level int) uint64 {
	if level < 1 {
		return t
	}
	if level >= levels {
		return 0
	}
	below := digitBits * level
	return t >> below << below
}

// Add is a sum that fits.
func Add(a, b uint64) (uint64, api.Errno) {
	sum := a + b
	// A sum that wrapped round is below each of its parts.
	if sum < a {
		return 0, api.ErrOver
	}
	return sum, api.OK
}

// Later is a time that lies ahead.
func Later(d, now uint64) (uint64, api.Errno) {
	next, err := Add(now, 1)
	if err != api.OK {
		return 0, err
	}
	return max(d, next), api.OK
}
