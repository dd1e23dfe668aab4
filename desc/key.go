package desc

import (
	"strings"

	"strongbox/api"
	"strongbox/hdkey"
	"strongbox/text"
)

// What a key has behind its steps.
const (
	noIndex = iota
	softIndex
	hardIndex
)

// key is a public key alone, or one of a tree of keys, with steps from there, and perhaps an index.
type key struct {
	alone bool
	root  hdkey.Key // of a public key alone, only its Data
	steps []uint32
	index int

	// end is what the steps lead to from the root. They are the same for every index, and take long. It is the zero Key, which has no child, no point and no secret, if they lead nowhere.
	end hdkey.Key
}

func newKey(root hdkey.Key, steps []uint32, index int) key {
	end, _ := root.Walk(steps...)
	return key{root: root, steps: steps, index: index, end: end}
}

// aloneKey returns a public key without a tree.
func aloneKey(pub [33]byte) key {
	k := newKey(hdkey.Key{Data: pub}, nil, noIndex)
	k.alone = true
	return k
}

func (k key) text() string {
	if k.alone {
		return text.Hex(k.root.Data[:])
	}
	return k.root.Text() + strings.TrimPrefix(hdkey.Path(k.steps...), "m") + k.indexText()
}

func (k key) indexText() string {
	switch k.index {
	case softIndex:
		return "/*"
	case hardIndex:
		return "/*'"
	}
	return ""
}

// at returns the key at an index, which is the zero Key if there is none.
func (k key) at(index uint32) hdkey.Key {
	switch k.index {
	case softIndex:
		child, _ := k.end.Step(index)
		return child
	case hardIndex:
		child, _ := k.end.Step(index + hdkey.Hard)
		return child
	}
	return k.end
}

// public returns the key without its secret, if that has the same public keys.
func (k key) public() key {
	if !k.root.Private() || k.index == hardIndex {
		return k
	}
	done := len(k.steps)
	for done > 0 && k.steps[done-1] < hdkey.Hard {
		done--
	}
	// Where these steps lead nowhere, from is the zero Key, of which there is no Public.
	from, _ := k.root.Walk(k.steps[:done]...)
	root, err := from.Public()
	if err != api.OK {
		return k
	}
	return newKey(root, k.steps[done:], k.index)
}
