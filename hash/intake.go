package hash

// kind says how a digest takes a message in: from start on, step by step, in blocks of so many bytes.
type kind[W any] struct {
	block int
	start W
	step  func(words W, block []byte) W
}

// intake is a digest's words behind the whole blocks that came, and what came behind these. The zero intake has got nothing: its words are set as soon as something comes.
type intake[W any] struct {
	words W
	rest  [128]byte
	size  uint64
}

func (in *intake[W]) add(k kind[W], b ...byte) {
	if in.size == 0 {
		in.words = k.start
	}
	have := int(in.size % uint64(k.block))
	in.size += uint64(len(b))
	if have > 0 {
		n := copy(in.rest[have:k.block], b)
		if have+n < k.block {
			return
		}
		in.words = k.step(in.words, in.rest[:k.block])
		b = b[n:]
	}
	for len(b) >= k.block {
		in.words = k.step(in.words, b[:k.block])
		b = b[k.block:]
	}
	copy(in.rest[:], b)
}

// padding returns what closes a message of size bytes: the byte 80, zero bytes up to a block's end, and in the last ones of them (room bytes are kept free) the number of bits, the most significant byte first.
func padding(size uint64, block, room int) []byte {
	used := int(size%uint64(block)) + 1 + room
	zeros := (2*block - used) % block
	out := make([]byte, 1+zeros+room)
	out[0] = 0x80
	for i := range 8 {
		out[len(out)-1-i] = byte(size * 8 >> (8 * i))
	}
	return out
}
