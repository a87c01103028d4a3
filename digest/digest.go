// Package digest computes digests of strings: see shared/doc/01-digest.md.
package digest

import (
	"math/bits"

	"archivum/api"
)

const (
	blockBytes = 136
	blockWords = blockBytes / 8
	textSize   = 2 * api.DigestSize
	digits     = "0123456789abcdef"
)

// rotations has the table R row by row, as a state has its words.
var rotations = [25]int{
	0, 1, 62, 28, 27,
	36, 44, 6, 55, 20,
	3, 10, 43, 25, 39,
	41, 45, 15, 21, 8,
	18, 2, 61, 56, 14,
}

var constants = [24]uint64{
	0x0000000000000001, 0x0000000000008082, 0x800000000000808a, 0x8000000080008000,
	0x000000000000808b, 0x0000000080000001, 0x8000000080008081, 0x8000000000008009,
	0x000000000000008a, 0x0000000000000088, 0x0000000080008009, 0x000000008000000a,
	0x000000008000808b, 0x800000000000008b, 0x8000000000008089, 0x8000000000008003,
	0x8000000000008002, 0x8000000000000080, 0x000000000000800a, 0x800000008000000a,
	0x8000000080008081, 0x8000000000008080, 0x0000000080000001, 0x8000000080008008,
}

// Permute permutes a state of 25 words.
func Permute(s [25]uint64) [25]uint64 {
	for i := range len(constants) {
		s = round(s, constants[i])
	}
	return s
}

func round(a [25]uint64, constant uint64) [25]uint64 {
	b := moved(a, changes(a))
	for y := 0; y < 25; y += 5 {
		b0, b1, b2, b3, b4 := b[y], b[y+1], b[y+2], b[y+3], b[y+4]
		a[y] = b0 ^ (^b1 & b2)
		a[y+1] = b1 ^ (^b2 & b3)
		a[y+2] = b2 ^ (^b3 & b4)
		a[y+3] = b3 ^ (^b4 & b0)
		a[y+4] = b4 ^ (^b0 & b1)
	}
	a[0] ^= constant
	return a
}

// changes returns D of step 1 of a round.
func changes(a [25]uint64) [5]uint64 {
	var c, d [5]uint64
	for x := range 5 {
		c[x] = a[x] ^ a[x+5] ^ a[x+10] ^ a[x+15] ^ a[x+20]
	}
	for x := range 5 {
		d[x] = c[(x+4)%5] ^ bits.RotateLeft64(c[(x+1)%5], 1)
	}
	return d
}

// moved returns B of step 2 of a round.
func moved(a [25]uint64, d [5]uint64) [25]uint64 {
	var b [25]uint64
	for y := range 5 {
		for x := range 5 {
			from := x + 5*y
			b[y+5*((2*x+3*y)%5)] = bits.RotateLeft64(a[from]^d[x], rotations[from])
		}
	}
	return b
}

// Sum returns the digest of a string.
func Sum(data string) string {
	h := New()
	h.Write(data)
	return h.Sum()
}

// Hex returns the text of a digest.
func Hex(digest string) (string, api.Errno) {
	if len(digest) != api.DigestSize {
		return "", api.ErrArg
	}
	text := make([]byte, 0, textSize)
	for i := range len(digest) {
		text = append(text, digits[digest[i]>>4], digits[digest[i]&15])
	}
	return string(text), api.OK
}

// Parse returns the digest with a text.
func Parse(text string) (string, api.Errno) {
	if len(text) != textSize {
		return "", api.ErrSyntax
	}
	digest := make([]byte, api.DigestSize)
	for i := range len(text) {
		half, ok := digitValue(text[i])
		if !ok {
			return "", api.ErrSyntax
		}
		digest[i/2] = digest[i/2]<<4 | half
	}
	return string(digest), api.OK
}

// digitValue does not know A to F, so that each digest has one text only.
func digitValue(c byte) (byte, bool) {
	switch {
	case '0' <= c && c <= '9':
		return c - '0', true
	case 'a' <= c && c <= 'f':
		return c - 'a' + 10, true
	}
	return 0, false
}

// Hash takes in strings.
type Hash struct {
	// The bytes of a block that is not full yet are already part of the
	// state, so that no bytes have to be kept.
	state [25]uint64
	count int
}

// New returns a hash that has taken in nothing.
func New() *Hash { return &Hash{} }

// Write takes in strings.
func (h *Hash) Write(parts ...string) int {
	for _, part := range parts {
		h.take(part)
	}
	return h.count
}

func (h *Hash) take(data string) {
	for data != "" {
		if h.count%blockBytes == 0 && len(data) >= blockBytes {
			h.takeBlock(data[:blockBytes])
			data = data[blockBytes:]
			continue
		}
		h.state = withByte(h.state, h.count%blockBytes, data[0])
		h.count++
		if h.count%blockBytes == 0 {
			h.state = Permute(h.state)
		}
		data = data[1:]
	}
}

// takeBlock does for a whole block at once what take does byte by byte.
func (h *Hash) takeBlock(block string) {
	for i := range blockWords {
		h.state[i] ^= word(block[8*i : 8*i+8])
	}
	h.state = Permute(h.state)
	h.count += blockBytes
}

// word reads 8 bytes, the least significant one first.
func word(data string) uint64 {
	var w uint64
	for i := range 8 {
		w |= uint64(data[i]) << (8 * i)
	}
	return w
}

// withByte exclusive-ors a byte with the one at a place of a state.
func withByte(s [25]uint64, place int, b byte) [25]uint64 {
	s[place/8] ^= uint64(b) << (8 * (place % 8))
	return s
}

// Sum returns the digest of what the hash has taken in.
func (h *Hash) Sum() string {
	// The end is laid into a copy of the state: more can be written afterwards.
	s := withByte(h.state, h.count%blockBytes, 0x06)
	s = Permute(withByte(s, blockBytes-1, 0x80))
	digest := make([]byte, 0, api.DigestSize)
	for i := range api.DigestSize {
		digest = append(digest, byte(s[i/8]>>(8*(i%8))))
	}
	return string(digest)
}

// Clone returns an independent copy.
func (h *Hash) Clone() *Hash {
	c := *h
	return &c
}
