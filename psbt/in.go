package psbt

// learn adds what is known elsewhere about the same input, which then must not be used any more. It reports whether both agree on what it spends.
func (in *In) learn(other In) bool {
	if in.Known && other.Known && !sameOut(in.Out, other.Out) {
		return false
	}
	if !in.Known {
		in.Known, in.Out = other.Known, other.Out
	}
	in.Inner = joined(in.Inner, other.Inner, itself)
	in.Sigs = joined(in.Sigs, other.Sigs, Sig.key)
	if !in.Final {
		in.Final, in.Script, in.Witness = other.Final, other.Script, other.Witness
	}
	return true
}

// joined returns a list, followed by those of others whose key none has yet.
func joined[T any](list, others []T, key func(x T) []byte) []T {
	have := map[string]struct{}{}
	for _, x := range list {
		have[string(key(x))] = struct{}{}
	}
	for _, x := range others {
		k := string(key(x))
		if _, ok := have[k]; !ok {
			have[k] = struct{}{}
			list = append(list, x)
		}
	}
	return list
}

func itself(b []byte) []byte { return b }

func (s Sig) key() []byte { return s.Pub }
