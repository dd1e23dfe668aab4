package text

import (
	"slices"

	"strongbox/api"
)

// Segwit returns the address of a witness program.
func Segwit(hrp string, version int, program []byte) (string, api.Errno) {
	if version < 0 || version > 16 {
		return "", api.ErrArg
	}
	if !isProgram(version, len(program)) {
		return "", api.ErrSize
	}
	values, err := Regroup(program, 8, 5, true)
	if err != api.OK {
		return "", err
	}
	return Bech32(hrp, slices.Concat([]byte{byte(version)}, values), version > 0)
}

// FromSegwit returns the version and the program of an address with this human-readable part.
func FromSegwit(hrp, s string) (int, []byte, api.Errno) {
	part, values, m, err := FromBech32(s)
	if err != api.OK {
		return 0, nil, err
	}
	if part != hrp {
		return 0, nil, api.ErrNone
	}
	if len(values) == 0 || values[0] > 16 || m != (values[0] > 0) {
		return 0, nil, api.ErrForm
	}
	version := int(values[0])
	program, err := Regroup(values[1:], 5, 8, false)
	if err != api.OK {
		return 0, nil, err
	}
	if !isProgram(version, len(program)) {
		return 0, nil, api.ErrSize
	}
	return version, program, api.OK
}

// isProgram: may a program of this version have so many bytes?
func isProgram(version, size int) bool {
	if version == 0 {
		return size == 20 || size == 32
	}
	return size >= 2 && size <= 40
}
