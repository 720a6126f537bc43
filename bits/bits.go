// Package bits: rows of bits, sums of them: see doc/01-bits.md.
package bits

const (
	sumTop  = 14     // a sum's highest bit
	sumAll  = 0x7fff // the 15 bits of a sum
	sumTurn = 0x4599
)

// bit is the one place where a sign is read, so that every call takes a sign that isn't '1' for a 0.
func bit(sign byte) byte {
	if sign == '1' {
		return 1
	}
	return 0
}

// octet answers an array: each byte's signs are a value of their own, to be copied to where they belong.
func octet(b byte) [8]byte {
	var signs [8]byte
	for i := range signs {
		signs[i] = '0' + b>>(7-i)&1
	}
	return signs
}

// word is always 64 signs long: a narrower row is its end.
func word(n uint64) [64]byte {
	var signs [64]byte
	for i := range 8 {
		part := octet(byte(n >> (56 - 8*i)))
		copy(signs[8*i:], part[:])
	}
	return signs
}

// Is: see the chapter, P1.1.
func Is(s string) bool {
	for i := range len(s) {
		if s[i] != '0' && s[i] != '1' {
			return false
		}
	}
	return true
}

// Of: see the chapter, P1.1.
func Of(n uint64, width int) string {
	signs := word(n)
	return string(signs[64-min(max(width, 0), 64):])
}

// Num: see the chapter, P1.1.
func Num(s string) uint64 {
	var n uint64
	for i := range len(s) {
		n = n<<1 | uint64(bit(s[i])) // what is beyond 64 bits falls out at the top
	}
	return n
}

// CRC: see the chapter, P1.2, P1.3.
func CRC(s string) uint16 {
	var sum uint16
	for i := range len(s) {
		unlike := uint16(bit(s[i])) != sum>>sumTop
		sum = sum << 1 & sumAll
		if unlike {
			sum ^= sumTurn
		}
	}
	return sum
}

// And: see the chapter, P1.1.
func And(a, b string) string {
	row := make([]byte, min(len(a), len(b)))
	for i := range row {
		row[i] = '0' + bit(a[i])&bit(b[i])
	}
	return string(row)
}

// Turn: see the chapter, P1.1.
func Turn(s string, at int) string {
	row := make([]byte, len(s))
	for i := range row {
		row[i] = '0' + bit(s[i]) // also where nothing is turned: other signs don't go out
	}
	if at >= 0 && at < len(row) {
		row[at] ^= '0' ^ '1'
	}
	return string(row)
}

// Bytes: see the chapter, P1.1.
func Bytes(s string) string {
	whole := make([]byte, len(s)/8)
	for i := range whole {
		whole[i] = byte(Num(s[8*i : 8*i+8]))
	}
	return string(whole)
}

// FromBytes: see the chapter, P1.1.
func FromBytes(b string) string {
	row := make([]byte, 8*len(b))
	for i := range len(b) {
		signs := octet(b[i])
		copy(row[8*i:], signs[:])
	}
	return string(row)
}
