// Package crc is layer 1: sums of 32 bits, by which a few bytes that were changed are told. See shared/doc/01-crc.md.
package crc

// turned is what is turned in a sum whose lowest bit falls out as it is halved.
const turned = 3988292384

// Start is P1.1.
func Start() uint32 { return 1<<32 - 1 }

// Add is P1.1.
func Add(sum uint32, b string) uint32 {
	step := func(c byte) {
		sum ^= uint32(c)
		for range 8 {
			sum = halve(sum)
		}
	}
	for i := range len(b) {
		step(b[i])
	}
	return sum
}

// End is P1.2.
func End(sum uint32) uint32 { return ^sum }

// Of is P1.2.
func Of(b string) uint32 { return End(Add(Start(), b)) }

func halve(sum uint32) uint32 {
	if sum&1 == 1 {
		return sum>>1 ^ turned
	}
	return sum >> 1
}
