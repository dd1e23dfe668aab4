package script

import (
	"bytes"
	"slices"

	"strongbox/api"
)

// The known forms.
const (
	Other = iota
	KeyHash
	ScriptHash
	WitnessKey
	WitnessScript
	Multi
	Data
	Witness
)

const (
	// What is pushed by the forms: a Hash160, a Sum256, a public key.
	shortHash, longHash, keySize = 20, 32, 33
	// How many bytes a witness program has.
	minProgram, maxProgram = 2, 40
	// maxKeys is how many keys the form Multi has at most.
	maxKeys = maxSmall
)

// Kind returns the form of a script, and the parts that the form has.
func Kind(s []byte) (int, [][]byte) {
	if version, program, ok := Program(s); ok {
		return witness(version, program)
	}
	ops, err := Parse(s)
	switch {
	case err != api.OK:
		return Other, nil
	case coded(ops, Dup, Hash160, shortHash, EqualVerify, CheckSig):
		return KeyHash, [][]byte{ops[2].Data}
	case coded(ops, Hash160, shortHash, Equal):
		return ScriptHash, [][]byte{ops[1].Data}
	case multi(ops):
		return Multi, multiParts(ops)
	case len(s) > 0 && s[0] == Return && Pushes(s[1:]):
		return Data, [][]byte{bytes.Clone(s[1:])}
	}
	return Other, nil
}

// witness returns the form of a witness program, and its parts.
func witness(version int, program []byte) (int, [][]byte) {
	switch {
	case version == 0 && len(program) == shortHash:
		return WitnessKey, [][]byte{program}
	case version == 0 && len(program) == longHash:
		return WitnessScript, [][]byte{program}
	}
	return Witness, [][]byte{{byte(version)}, program}
}

// coded: are these the codes of all operations? As a push of a few bytes has their number as its code, that tells how many bytes there are, too.
func coded(ops []Op, codes ...byte) bool {
	return slices.EqualFunc(ops, codes, func(op Op, code byte) bool { return op.Code == code })
}

// multi: is a script of the form Multi?
func multi(ops []Op) bool {
	n := len(ops) - 3
	if n < 1 || ops[n+2].Code != CheckMulti || small(ops[n+1].Code) != n {
		return false
	}
	m := small(ops[0].Code)
	return 1 <= m && m <= n && !slices.ContainsFunc(ops[1:n+1], func(op Op) bool { return op.Code != keySize })
}

// multiParts returns the number of keys that must sign, and all keys.
func multiParts(ops []Op) [][]byte {
	parts := [][]byte{{byte(small(ops[0].Code))}}
	for _, op := range ops[1 : len(ops)-2] {
		parts = append(parts, op.Data)
	}
	return parts
}

// small returns the number from 0 to 16 that a code pushes on its own, or -1 if it pushes none of them.
func small(code byte) int {
	switch {
	case code == False:
		return 0
	case One <= code && code <= Sixteen:
		return int(code) - One + 1
	}
	return -1
}

// Program returns the version and the push of a witness program, if the script is one.
func Program(s []byte) (int, []byte, bool) {
	if len(s) < 2+minProgram || len(s) > 2+maxProgram || int(s[1]) != len(s)-2 || small(s[0]) < 0 {
		return 0, nil, false
	}
	return small(s[0]), bytes.Clone(s[2:]), true
}

// PayKey returns the script that pays to the Hash160 of a key.
func PayKey(h [20]byte) []byte {
	return slices.Concat([]byte{Dup, Hash160}, Push(h[:]), []byte{EqualVerify, CheckSig})
}

// PayScript returns the script that pays to the Hash160 of a script.
func PayScript(h [20]byte) []byte {
	return slices.Concat([]byte{Hash160}, Push(h[:]), []byte{Equal})
}

// PayWitness returns the witness program of a version.
func PayWitness(version int, program []byte) ([]byte, api.Errno) {
	if version < 0 || version > maxSmall {
		return nil, api.ErrArg
	}
	if len(program) < minProgram || len(program) > maxProgram {
		return nil, api.ErrSize
	}
	return slices.Concat(pushNumber(version), Push(program)), api.OK
}

// PayMulti returns the script that m of the keys must sign.
func PayMulti(m int, keys ...[]byte) ([]byte, api.Errno) {
	if m < 1 || m > len(keys) || len(keys) > maxKeys {
		return nil, api.ErrArg
	}
	if slices.ContainsFunc(keys, func(key []byte) bool { return len(key) != keySize }) {
		return nil, api.ErrForm
	}
	s := pushNumber(m)
	for _, key := range keys {
		s = append(s, Push(key)...)
	}
	return slices.Concat(s, pushNumber(len(keys)), []byte{CheckMulti}), api.OK
}

// pushNumber returns the shortest script that pushes a number.
func pushNumber(n int) []byte { return Push(Number(int64(n))) }
