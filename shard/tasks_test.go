package shard

import (
	"slices"
	"testing"

	"verge/api"
	"verge/wheel"
)

// How due entries become tasks: of what stands behind Turn.

// entries are entries with tasks of these numbers.
func entries(ids ...uint64) []*wheel.Entry[api.Task] {
	var l []*wheel.Entry[api.Task]
	for _, id := range ids {
		l = append(l, &wheel.Entry[api.Task]{Value: api.Task{Id: id}})
	}
	return l
}

func TestTasksAreInOrder(t *testing.T) {
	var told []uint64
	for task := range tasks(entries(3, 1, 2, 1)) {
		told = append(told, task.Id)
	}
	if !slices.Equal(told, []uint64{3, 1, 2, 1}) {
		t.Errorf("told %v", told)
	}
	for task := range tasks(nil) {
		t.Errorf("no entries told %v", task)
	}
}

func TestTasksEndEarly(t *testing.T) {
	var told []uint64
	for task := range tasks(entries(3, 1, 2)) {
		told = append(told, task.Id)
		if task.Id == 1 {
			break
		}
	}
	if !slices.Equal(told, []uint64{3, 1}) {
		t.Errorf("told %v", told)
	}
}
