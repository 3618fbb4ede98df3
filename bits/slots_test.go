package bits

import (
	"slices"
	"testing"
)

// How slots are gone through: of what stands behind From, Round and All.

func TestSlotsRise(t *testing.T) {
	var told []int
	for s := range Map(1<<63 | 1<<32 | 1<<31 | 1).slots {
		told = append(told, s)
	}
	if !slices.Equal(told, []int{0, 31, 32, 63}) {
		t.Errorf("told %v", told)
	}
	for s := range Map(0).slots {
		t.Errorf("the empty map told %d", s)
	}
}

func TestSlotsEndEarly(t *testing.T) {
	var told []int
	for s := range Map(1<<40 | 1<<7 | 1<<3).slots {
		told = append(told, s)
		if s == 7 {
			break
		}
	}
	if !slices.Equal(told, []int{3, 7}) {
		t.Errorf("told %v", told)
	}
}
