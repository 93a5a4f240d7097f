package analysis

import "math/bits"

const wordSize = 64

// set is a set of numbers: the word at w tells which of the numbers from
// w*wordSize on are in it. Programs of a few lines have hundreds of cells that
// may each hold hundreds of targets: so those go from set to set many at once.
type set map[int]uint64

func setOf(number int) set {
	s := set{}
	s.add(number)
	return s
}

// add puts a number in, and tells whether it was not there yet.
func (s set) add(number int) bool {
	word, bit := number/wordSize, uint64(1)<<(number%wordSize)
	if s[word]&bit != 0 {
		return false
	}
	s[word] |= bit
	return true
}

// take puts in what another set has, and tells what of it was not there yet. A
// set that takes itself stays as it is.
func (s set) take(other set) set {
	fresh := set{}
	for word, theirs := range other {
		if more := theirs &^ s[word]; more != 0 {
			s[word] |= more
			fresh[word] = more
		}
	}
	return fresh
}

// meets tells whether some number is in both sets.
func (s set) meets(other set) bool {
	for word, ours := range s {
		if ours&other[word] != 0 {
			return true
		}
	}
	return false
}

// numbers tells what is in a set, in no order. It is a list of its own, since
// the set may grow while they are gone through.
func (s set) numbers() []int {
	var all []int
	for word, rest := range s {
		for ; rest != 0; rest &= rest - 1 {
			all = append(all, word*wordSize+bits.TrailingZeros64(rest))
		}
	}
	return all
}
