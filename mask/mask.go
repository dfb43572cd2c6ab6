// Package mask implements operations on words of 64 bits without decisions that depend on their values. It is layer 1.
//
// The mask of a condition is the word whose bits are all 1 if the condition holds, and all 0 otherwise.
package mask

// Indices of weights.
const (
	highest = 0
	every   = 1
)

// weights are the values of words of which only the highest bit, and of which every bit, is 1.
var weights = [2]uint64{1 << 63, 1<<64 - 1}

// Of returns the mask of whether the lowest bit of its argument is 1.
func Of(bit uint64) uint64 {
	// Not a product of the bit and all ones, which Go may compile to a conditional move.
	return (Bit(bit) - 1) ^ weights[every]
}

// Bit returns the lowest bit of m.
func Bit(m uint64) uint64 { return m & 1 }

// Select returns the bits of a where those of m are 1, and the bits of b where they are 0.
func Select(m, a, b uint64) uint64 { return a&m | b&^m }

// Swap returns a and b with their bits exchanged where those of m are 1.
func Swap(m, a, b uint64) (uint64, uint64) { return Select(m, b, a), Select(m, a, b) }

// Zero returns the mask of whether a word is 0.
func Zero(a uint64) uint64 { return Less(a, 1) }

// Equal returns the mask of whether two words are equal.
func Equal(a, b uint64) uint64 { return Zero(a ^ b) }

// Less returns the mask of whether a word is less than another one.
func Less(a, b uint64) uint64 {
	// a - b borrows from a 65th bit if b has the greater highest bit, or if these bits are equal and the lower ones borrow from them.
	borrow := ^a&b | ^(a^b)&(a-b)
	return Of(borrow >> 63)
}

// LessSigned returns the mask of whether a signed word is less than another one.
func LessSigned(a, b int64) uint64 {
	// With the highest bit inverted, signed words have the order of unsigned ones.
	return Less(uint64(a)^weights[highest], uint64(b)^weights[highest])
}

// Negative returns the mask of whether a signed word is less than 0.
func Negative(a int64) uint64 { return LessSigned(a, 0) }

// Sign returns -1 if the lowest bit of negative is 1, or else 0 if that of zero is 1, and otherwise 1.
func Sign(negative, zero uint64) int64 {
	// All ones are -1, and remain so with any other bits added.
	return int64(Of(negative) | Bit(^zero))
}
