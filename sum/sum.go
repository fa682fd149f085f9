// Package sum is layer 1: see shared/doc/01-sum.md.
package sum

import "math/bits"

// A CRC's register is a polynomial over the bits 0 and 1, its highest bit the
// constant term: shifting it down by one bit multiplies it by x, and the bit
// that falls out comes back as fold.
const (
	fold uint32 = 0xEDB88320
	one  uint32 = 1 << 31
)

const (
	hashBegin uint64 = 14695981039346656037
	hashTimes uint64 = 1099511628211
)

// halfSteps has what comes back into the register for each half of a byte that four shifts let fall out.
var halfSteps = [16]uint32{
	0x00000000, 0x1DB71064, 0x3B6E20C8, 0x26D930AC,
	0x76DC4190, 0x6B6B51F4, 0x4DB26158, 0x5005713C,
	0xEDB88320, 0xF00F9344, 0xD6D6A3E8, 0xCB61B38C,
	0x9B64C2B0, 0x86D3D2D4, 0xA00AE278, 0xBDBDF21C,
}

// Sum is the CRC-32 of bytes.
func Sum(b []byte) uint32 { return Update(0, b) }

// Update is the CRC-32 of bytes whose CRC-32 is s, and of b behind them.
func Update(s uint32, b []byte) uint32 {
	r := ^s
	for i := range len(b) {
		r = byteStep(r ^ uint32(b[i]))
	}
	return ^r
}

// Join is the CRC-32 of bytes whose CRC-32 is a, and of n bytes behind them whose CRC-32 is b.
func Join(a, b uint32, n int) uint32 {
	return product(a, byteSteps(max(n, 0))) ^ b
}

// Hash is the FNV-1a of a text, 64 bits.
func Hash(s string) uint64 { return Feed(Begin(), s) }

// Begin is the Hash of no text.
func Begin() uint64 { return hashBegin }

// Feed is the Hash of a text whose Hash is h, and of s behind it.
func Feed(h uint64, s string) uint64 {
	for i := range len(s) {
		h = (h ^ uint64(s[i])) * hashTimes
	}
	return h
}

// byteStep shifts the register by a byte.
func byteStep(r uint32) uint32 {
	for range 2 {
		r = r>>4 ^ halfSteps[r&15]
	}
	return r
}

// bitStep shifts the register by a bit.
func bitStep(r uint32) uint32 {
	return r>>1 ^ fold*(r&1)
}

// byteSteps is the factor that stands for n shifts by a byte. It goes through
// n's bits from the highest, so that a bit of n costs one multiplication only:
// the factor x^8 of a bit that is set is a mere shift.
func byteSteps(n int) uint32 {
	p := one
	width := bits.Len64(uint64(n))
	for i := range width {
		p = product(p, p)
		if n>>(width-1-i)&1 == 1 {
			p = byteStep(p)
		}
	}
	return p
}

// product multiplies two registers as polynomials.
func product(a, b uint32) uint32 {
	p := uint32(0)
	for i := range 32 {
		p ^= b * (a >> (31 - i) & 1)
		b = bitStep(b)
	}
	return p
}
