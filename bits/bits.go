// Package bits is layer 1: see shared/doc/01-bits.md.
package bits

// size is how many bits an octet has.
const size = 8

// Of gives octets as bits.
func Of(octets []byte) []byte {
	out := make([]byte, 0, size*len(octets))
	for _, o := range octets {
		for i := range size {
			out = append(out, lowest(o>>i))
		}
	}
	return out
}

// Octets gives bits as octets.
func Octets(bits []byte) ([]byte, bool) {
	if len(bits)%size != 0 {
		return nil, false
	}
	out := make([]byte, len(bits)/size)
	for n := range out {
		for i := range size {
			out[n] |= lowest(bits[size*n+i]) << i
		}
	}
	return out, true
}

// Clean gives bits as 0 and 1.
func Clean(bits []byte) []byte {
	out := make([]byte, len(bits))
	for i, b := range bits {
		out[i] = lowest(b)
	}
	return out
}

// Run tells how many 1s stand in a row at most.
func Run(bits []byte) int {
	most, row := 0, 0
	for _, b := range bits {
		if lowest(b) == 0 {
			row = 0
			continue
		}
		row++
		most = max(most, row)
	}
	return most
}

// lowest gives the bit that a byte stands for: what its other bits are counts
// for nothing.
func lowest(b byte) byte { return b & 1 }
