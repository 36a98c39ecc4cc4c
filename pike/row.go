package pike

// thread is an instruction that is still to be visited, and the captures that were noted on the way to it.
type thread struct {
	inst int
	caps []int
}

// row is threads, the one that goes ahead first.
type row struct {
	// Those from count on are over: their captures' memory is taken again, so that a long text needs no more than a short one.
	threads []thread
	count   int
}

// put puts a thread behind the others, with captures of its own: who hands them in goes on changing them.
func (r *row) put(inst int, caps []int) {
	if r.count == len(r.threads) {
		r.threads = append(r.threads, thread{caps: make([]int, len(caps))})
	}
	t := &r.threads[r.count]
	t.inst = inst
	copy(t.caps, caps)
	r.count++
}

// each has all threads visited, in their order, or those up to one that ends the place; it tells whether none did.
func (r *row) each(visit func(inst int, caps []int) bool) bool {
	for _, t := range r.threads[:r.count] {
		if !visit(t.inst, t.caps) {
			return false
		}
	}
	return true
}

// drop has the row without threads.
func (r *row) drop() { r.count = 0 }
