package list

import (
	"slices"
	"testing"
)

// How nodes are gone through: of what stands behind Splice, Drain and All.

func TestNodesAreTakenOutMeanwhile(t *testing.T) {
	l := New[int]()
	for i := range 5 {
		l.Push(i)
	}
	var told []int
	for n := range l.nodes {
		told = append(told, n.Value)
		if n.Value%2 == 0 {
			l.Unlink(n)
		}
	}
	if !slices.Equal(told, []int{0, 1, 2, 3, 4}) || !slices.Equal(l.All(), []int{1, 3}) {
		t.Errorf("told %v, left %v", told, l.All())
	}
}

func TestNodesEndEarly(t *testing.T) {
	l := New[int]()
	for i := range 5 {
		l.Push(i)
	}
	var told []int
	for n := range l.nodes {
		told = append(told, n.Value)
		if n.Value == 2 {
			break
		}
	}
	if !slices.Equal(told, []int{0, 1, 2}) || l.Len() != 5 {
		t.Errorf("told %v, left %v", told, l.All())
	}
}
