package code

import (
	"heron/api"
	"heron/prog"
)

// broken is what a reader panics with, which finds that what it reads is no program's.
type broken struct{}

// wantBroken lets a panic pass that no reader meant: a mistake of the program is not passed off as one of what is read.
func wantBroken(given any) {
	if _, is := given.(broken); !is {
		panic(given)
	}
}

// mayBe is a program that was read, if it may be; else its reader gives up.
func mayBe(p api.Program) api.Program {
	if prog.Check(p) != api.OK {
		panic(broken{})
	}
	return p
}
