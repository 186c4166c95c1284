package elf

import "whetstone/api"

// What may be odd: each is a type of its own, by which it is known when it is
// caught.
type (
	tooMany  struct{} // more segments than there may be
	tooShort struct{} // the file ends ahead of what it tells of
	noClass  struct{} // the head is not of such a file
	noForm   struct{} // a segment that may not be
	meeting  struct{} // two segments with an address in common
)

// insist ends the work by telling what is odd, unless all is well.
func insist(well bool, odd any) {
	if !well {
		panic(odd)
	}
}

// attempt does the work as far as it goes, and answers what was odd.
func attempt(work func()) (e api.Errno) {
	defer func() { e = known(recover()) }()
	work()
	return api.OK
}

// known is the error of what was caught; nil tells that nothing was.
func known(odd any) api.Errno {
	switch odd.(type) {
	case nil:
		return api.OK
	case tooMany:
		return api.ErrBig
	case tooShort:
		return api.ErrElfShort
	case noClass:
		return api.ErrElfClass
	case noForm:
		return api.ErrElfForm
	case meeting:
		return api.ErrElfMeet
	}
	// Nothing else is ever told by a panic here: what it would be is a fault
	// of this package, which must not pass for one of the file.
	panic(odd)
}
