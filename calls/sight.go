package calls

import (
	"verge/api"
	"verge/prog"
	"verge/word"
)

// sight is what a work saw of the timer that its call names.
type sight struct {
	slot int
	word word.Word
}

// look leads on by what it sees, if an event may happen to that; else the work is refused, and gone comes behind.
func (k *Work) look(event int, seen func(sight) prog.Stage, gone step) prog.Stage {
	records, id := k.floor.Slab(), k.call.Id
	slot, err := records.Slot(id)
	if err != api.OK {
		return k.refuse(api.ErrInvalid, gone)
	}
	w, _ := records.Word(slot)
	_, err = word.Next(w, event, records.Period(slot) != 0)
	if err != api.OK || !records.Mine(id) {
		return k.refuse(api.OK, gone)
	}
	return seen(sight{slot, w})
}

// try lets an event happen to the word that was seen. If it does, it is told, and the work's answer is Ok: the
// generation then, and whether it happened.
func (k *Work) try(s sight, event int, told api.Event) (uint64, bool) {
	w, err := k.floor.Slab().Try(s.slot, s.word, event)
	if err != api.OK {
		return 0, false
	}
	told.Id, told.Gen = k.call.Id, w.Gen()
	k.note(told)
	k.answer = api.Answer{Ok: true, Id: told.Id, Gen: told.Gen}
	return told.Gen, true
}
