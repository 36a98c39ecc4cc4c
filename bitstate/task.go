package bitstate

// task is what is left to be done once all that goes ahead of it has met no Match: a pair is to be met, or a capture becomes again what it was. It is small: nearly as many can be left at one time as a map has pairs.
type task struct {
	which int32 // the instruction; below 0: -1 - the capture
	place int32 // the pair's place; or what the capture was
}

// toMeet is a pair that is to be met.
func toMeet(inst, place int) task { return task{which: int32(inst), place: int32(place)} }

// toUndo is a capture that becomes again what it was.
func toUndo(capture, was int) task { return task{which: int32(-1 - capture), place: int32(was)} }

func (t task) isUndo() bool { return t.which < 0 }

// pair is the instruction and the place of one that is to be met.
func (t task) pair() (int, int) { return int(t.which), int(t.place) }

// undo makes the capture what it was.
func (t task) undo(caps []int) { caps[-1-t.which] = int(t.place) }
