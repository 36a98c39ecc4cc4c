package literal

// measure finds the borders, each by those ahead of it: the row is looked for in itself, from its second rune on.
func (f *Finder) measure() {
	for k := 2; k < len(f.borders); k++ {
		f.borders[k] = f.further(f.borders[k-1], f.lit[k-1])
	}
}

// further tells how many of the row's runes stand up to a rune, that one with them, at most, when so many, not all of them, stand up to the one ahead. What stands by fewer is known by the borders, so no rune of the text is asked for again.
func (f *Finder) further(stands, r int) int {
	for stands > 0 && f.lit[stands] != r {
		stands = f.borders[stands]
	}
	if f.lit[stands] == r {
		stands++
	}
	return stands
}
