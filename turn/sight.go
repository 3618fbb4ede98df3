package turn

import (
	"verge/api"
	"verge/word"
)

// sees is the word of a task's slot, and whether that is in a state, with the task's generation.
func (k *Work) sees(t api.Task, state api.State) (word.Word, bool) {
	// What is no slot has a zero word, which is Free: no task is looked for in that.
	w, _ := k.floor.Slab().Word(t.Slot)
	return w, w.State() == state && w.Gen() == t.Gen
}

// mine is whether a task's number is its slot's still.
func (k *Work) mine(t api.Task) bool {
	slot, err := k.floor.Slab().Slot(t.Id)
	return err == api.OK && slot == t.Slot && k.floor.Slab().Mine(t.Id)
}

// try lets an event happen to the word that was seen of a task's slot, and tells whether it did.
func (k *Work) try(t api.Task, seen word.Word, event int) bool {
	_, err := k.floor.Slab().Try(t.Slot, seen, event)
	return err == api.OK
}
