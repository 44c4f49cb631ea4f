package sums

import "dragnet/api"

// polynomial is Castagnoli's, its highest power in the lowest bit.
const polynomial = 0x82F63B78

// fourSteps is what four steps make of the numbers 0 to 15.
var fourSteps = [16]uint32{
	0x00000000, 0x105EC76F, 0x20BD8EDE, 0x30E349B1,
	0x417B1DBC, 0x5125DAD3, 0x61C69362, 0x7198540D,
	0x82F63B78, 0x92A8FC17, 0xA24BB5A6, 0xB21572C9,
	0xC38D26C4, 0xD3D3E1AB, 0xE330A81A, 0xF36E6F75,
}

// CRC is the sum of 32 bits by Castagnoli's polynomial.
func CRC(s string) uint32 {
	c := ^uint32(0)
	for i := range len(s) {
		c ^= uint32(s[i])
		c = fourSteps[c&15] ^ c>>4
		c = fourSteps[c&15] ^ c>>4
	}
	return ^c
}

// Join is the CRC of two texts one behind the other, by theirs and the second one's length. A step is a product with x, and n may be any int: so the steps are done as a product with a power of x, by squares.
func Join(a, b uint32, n int) (uint32, api.Errno) {
	if n < 0 {
		return 0, api.ErrArg
	}
	const eightSteps = 1 << 23 // x to the 8th: a product with it is eight steps
	for power := uint32(eightSteps); n > 0; n >>= 1 {
		if n&1 == 1 {
			a = product(a, power)
		}
		power = product(power, power)
	}
	return a ^ b, api.OK
}

// product is that of two polynomials over one bit, less what the CRC's polynomial divides; the lowest power stands in the highest bit.
func product(a, b uint32) uint32 {
	var sum uint32
	for ; a != 0; a <<= 1 {
		if a>>31 == 1 {
			sum ^= b
		}
		b = step(b)
	}
	return sum
}

// step is the chapter's step of a number.
func step(c uint32) uint32 {
	if c&1 == 1 {
		return c>>1 ^ polynomial
	}
	return c >> 1
}
