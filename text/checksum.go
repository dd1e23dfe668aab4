package text

import "strongbox/api"

// descriptorBytes: the bytes that a descriptor may have, each at its position.
const descriptorBytes = `0123456789()[],'/*abcdefgh@:$%{}` +
	`IJKLMNOPQRSTUVWXYZ&+-.;<=>?!^_|~` +
	`ijklmnopqrstuvwxyzABCDEFGH` + "`" + `#"\ `

const descriptorLetters = 8

// descriptorCode is the code of a descriptor's checksum.
var descriptorCode = code{
	lower: 35,
	xors:  [5]uint64{0xf5dee51989, 0xa9fdca3312, 0x1bab10e32d, 0x3706b1677a, 0x644d626ffd},
}

// Checksum returns the letters that follow the # of a descriptor.
func Checksum(s string) (string, api.Errno) {
	positions, ok := places(s, descriptorBytes)
	if !ok {
		return "", api.ErrForm
	}
	c := uint64(1)
	groups, collected := byte(0), 0
	for _, p := range positions {
		c = descriptorCode.step(c, p&31)
		groups = 3*groups + p>>5
		collected++
		if collected == 3 {
			c = descriptorCode.step(c, groups)
			groups, collected = 0, 0
		}
	}
	if collected > 0 {
		c = descriptorCode.step(c, groups)
	}
	c = descriptorCode.step(c, make([]byte, descriptorLetters)...)
	return spell(fives(c^1, descriptorLetters), letters32), api.OK
}
