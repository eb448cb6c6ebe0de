// Package sum is layer 1: sums of bytes (CRC-32C), by which spoilt ones are told.
package sum

import "tithebarn/api"

const (
	maskTurn = 15
	maskMore = 0xa282ead8
	wordSize = 4
)

// nibbles: what four bits bring in when they fall out at the lower end. Four at a
// time need two steps a byte, and no more than these sixteen numbers.
var nibbles = [16]uint32{
	0x00000000, 0x105ec76f, 0x20bd8ede, 0x30e349b1,
	0x417b1dbc, 0x5125dad3, 0x61c69362, 0x7198540d,
	0x82f63b78, 0x92a8fc17, 0xa24bb5a6, 0xb21572c9,
	0xc38d26c4, 0xd3d3e1ab, 0xe330a81a, 0xf36e6f75,
}

// Of tells the sum of b.
func Of(b []byte) uint32 {
	return More(0, b)
}

// More tells the sum of some bytes and b behind them, if c is the sum of the first.
func More(c uint32, b []byte) uint32 {
	c = ^c
	for _, x := range b {
		c ^= uint32(x)
		c = c>>4 ^ nibbles[c&15]
		c = c>>4 ^ nibbles[c&15]
	}
	return ^c
}

// Mask tells another form of a sum: a sum that stands among the bytes it is taken
// of would make all such bytes come to one sum, and its mask does not.
func Mask(c uint32) uint32 {
	return (c>>maskTurn | c<<(32-maskTurn)) + maskMore
}

// Unmask tells the number whose Mask is c.
func Unmask(c uint32) uint32 {
	c -= maskMore
	return c<<maskTurn | c>>(32-maskTurn)
}

// Word tells c as four bytes, the highest first.
func Word(c uint32) []byte {
	return []byte{byte(c >> 24), byte(c >> 16), byte(c >> 8), byte(c)}
}

// Parse tells the number whose Word b is.
func Parse(b []byte) (uint32, api.Errno) {
	if len(b) < wordSize {
		return 0, api.ErrShort
	}
	if len(b) > wordSize {
		return 0, api.ErrForm
	}
	return uint32(b[0])<<24 | uint32(b[1])<<16 | uint32(b[2])<<8 | uint32(b[3]), api.OK
}
