package salt

import "math/bits"

// blockBytes: SHA-256 takes a text in by so many bytes at a time.
const blockBytes = 64

// sizeAt: where in a block the length of the text begins, eight bytes ahead of its end.
const sizeAt = 56

// roots: the first 32 bits behind the point of the cube roots of the first 64 primes.
var roots = [64]uint32{
	0x428a2f98, 0x71374491, 0xb5c0fbcf, 0xe9b5dba5, 0x3956c25b, 0x59f111f1, 0x923f82a4, 0xab1c5ed5,
	0xd807aa98, 0x12835b01, 0x243185be, 0x550c7dc3, 0x72be5d74, 0x80deb1fe, 0x9bdc06a7, 0xc19bf174,
	0xe49b69c1, 0xefbe4786, 0x0fc19dc6, 0x240ca1cc, 0x2de92c6f, 0x4a7484aa, 0x5cb0a9dc, 0x76f988da,
	0x983e5152, 0xa831c66d, 0xb00327c8, 0xbf597fc7, 0xc6e00bf3, 0xd5a79147, 0x06ca6351, 0x14292967,
	0x27b70a85, 0x2e1b2138, 0x4d2c6dfc, 0x53380d13, 0x650a7354, 0x766a0abb, 0x81c2c92e, 0x92722c85,
	0xa2bfe8a1, 0xa81a664b, 0xc24b8b70, 0xc76c51a3, 0xd192e819, 0xd6990624, 0xf40e3585, 0x106aa070,
	0x19a4c116, 0x1e376c08, 0x2748774c, 0x34b0bcb5, 0x391c0cb3, 0x4ed8aa4a, 0x5b9cca4f, 0x682e6ff3,
	0x748f82ee, 0x78a5636f, 0x84c87814, 0x8cc70208, 0x90befffa, 0xa4506ceb, 0xbef9a3f7, 0xc67178f2,
}

// digest: SHA-256 that is under way: h of the blocks that were full, the bytes behind them, and how many bytes came in all.
type digest struct {
	h     [8]uint32
	block [blockBytes]byte
	size  uint64
}

// begun: SHA-256 of no bytes yet; of the square roots of the first eight primes what is behind the point.
func begun() digest {
	return digest{h: [8]uint32{
		0x6a09e667, 0xbb67ae85, 0x3c6ef372, 0xa54ff53a, 0x510e527f, 0x9b05688c, 0x1f83d9ab, 0x5be0cd19,
	}}
}

// putText takes in a text byte by byte, so that a long one needs no room beside it.
func (d *digest) putText(text string) {
	for i := range len(text) {
		d.put(text[i])
	}
}

// put takes in a byte.
func (d *digest) put(b byte) {
	d.block[d.size%blockBytes] = b
	d.size++
	if d.size%blockBytes == 0 {
		d.fold()
	}
}

// end: h behind all bytes that came, what closes a text behind them; d is of no use any more.
func (d *digest) end() [8]uint32 {
	// Ahead of what closes the text, which counts as bytes of d, but not of the text.
	length := d.size * 8
	d.put(0x80)
	for d.size%blockBytes != sizeAt {
		d.put(0)
	}
	for shift := 56; shift >= 0; shift -= 8 {
		d.put(byte(length >> shift))
	}
	return d.h
}

// fold takes a full block into h.
func (d *digest) fold() {
	w := spread(d.block)
	v := d.h
	for t := range w {
		v = turn(v, roots[t]+w[t])
	}
	for i := range v {
		d.h[i] += v[i]
	}
}

// spread: a block's 16 numbers, and 48 that hang on them.
func spread(block [blockBytes]byte) [64]uint32 {
	var w [64]uint32
	for t := range 16 {
		for _, b := range block[4*t : 4*t+4] {
			w[t] = w[t]<<8 | uint32(b)
		}
	}
	for t := 16; t < 64; t++ {
		x, y := w[t-15], w[t-2]
		s0 := rotated(x, 7) ^ rotated(x, 18) ^ x>>3
		s1 := rotated(y, 17) ^ rotated(y, 19) ^ y>>10
		w[t] = w[t-16] + s0 + w[t-7] + s1
	}
	return w
}

// turn: a to h behind one of the 64 steps, in which x is K(t) + w(t).
func turn(v [8]uint32, x uint32) [8]uint32 {
	a, b, c, d, e, f, g, h := v[0], v[1], v[2], v[3], v[4], v[5], v[6], v[7]
	t := h + (rotated(e, 6) ^ rotated(e, 11) ^ rotated(e, 25)) + (e&f | ^e&g) + x
	u := (rotated(a, 2) ^ rotated(a, 13) ^ rotated(a, 22)) + (a&b | a&c | b&c)
	return [8]uint32{t + u, a, b, c, d + t, e, f, g}
}

// rotated: x rotated right by n bits.
func rotated(x uint32, n int) uint32 {
	return bits.RotateLeft32(x, -n)
}
