// Package octets is layer 1: see shared/doc/01-octets.md.
package octets

import "cablegram/api"

// wordSize is how many bytes a number has.
const wordSize = 8

const digits = "0123456789abcdef"

// Low are a number's bytes, the lowest one first; none, if size is not 1 to 8.
func Low(n uint64, size int) []byte {
	if !fits(size) {
		return nil
	}
	out := make([]byte, size)
	for i := range size {
		out[i] = byteAt(n, i)
	}
	return out
}

// High are a number's bytes, the lowest one last; none, if size is not 1 to 8.
func High(n uint64, size int) []byte {
	if !fits(size) {
		return nil
	}
	out := make([]byte, size)
	for i := range size {
		out[size-1-i] = byteAt(n, i)
	}
	return out
}

func fits(size int) bool { return 1 <= size && size <= wordSize }

func byteAt(n uint64, i int) byte { return byte(n >> (8 * uint(i))) }

// OfLow is bytes' number, the lowest one first; what stands behind the eighth is left out.
func OfLow(b []byte) uint64 {
	n := uint64(0)
	for i := range min(len(b), wordSize) {
		n |= uint64(b[i]) << (8 * uint(i))
	}
	return n
}

// OfHigh is bytes' number, the lowest one last; what stands behind the eighth is left out.
func OfHigh(b []byte) uint64 {
	n := uint64(0)
	for i := range min(len(b), wordSize) {
		n = n<<8 | uint64(b[i])
	}
	return n
}

// Xor mixes bytes, as many as the shorter list has.
func Xor(a, b []byte) []byte {
	size := min(len(a), len(b))
	out := make([]byte, size)
	for i := range size {
		out[i] = a[i] ^ b[i]
	}
	return out
}

// Same tells whether bytes are alike. Differences are gathered, and asked at
// the end alone: how long it takes must not tell where the lists differ.
func Same(a, b []byte) bool {
	differ := byte(0)
	for i := range max(len(a), len(b)) {
		differ |= at(a, i) ^ at(b, i)
	}
	return differ == 0 && len(a) == len(b)
}

// at stands in a 0 for what is not there, so that the longer list is gone
// through to its end.
func at(b []byte, i int) byte {
	if i < len(b) {
		return b[i]
	}
	return 0
}

// Hex are bytes as digits, the higher one first.
func Hex(b []byte) string {
	out := make([]byte, 0, 2*len(b))
	for _, x := range b {
		out = append(out, digits[x>>4], digits[x&15])
	}
	return string(out)
}

// Unhex are digits' bytes. Capitals are refused: one list has one text alone.
func Unhex(s string) ([]byte, api.Errno) {
	if len(s)%2 != 0 {
		return nil, api.ErrHex
	}
	out := make([]byte, len(s)/2)
	for i := range len(out) {
		high, isHigh := digit(s[2*i])
		low, isLow := digit(s[2*i+1])
		if !isHigh || !isLow {
			return nil, api.ErrHex
		}
		out[i] = high<<4 | low
	}
	return out, api.OK
}

func digit(c byte) (byte, bool) {
	switch {
	case '0' <= c && c <= '9':
		return c - '0', true
	case 'a' <= c && c <= 'f':
		return c - 'a' + 10, true
	}
	return 0, false
}

// ToKey is the key of thirty-two bytes.
func ToKey(b []byte) (api.Key, api.Errno) {
	var k api.Key
	switch {
	case len(b) < len(k):
		return k, api.ErrShort
	case len(b) > len(k):
		return k, api.ErrLong
	}
	copy(k[:], b)
	return k, api.OK
}

// Join joins bytes, one list behind the other. The answer is always a new
// list, of one list too: whoever changes it changes none that was handed in.
func Join(l ...[]byte) []byte {
	size := 0
	for _, b := range l {
		size += len(b)
	}
	out := make([]byte, 0, size)
	for _, b := range l {
		out = append(out, b...)
	}
	return out
}
