package text

import "strongbox/api"

// Regroup turns values of so many bits into values of others, the most significant bit first. What remains is padded with zero bits or, without pad, left out if it is no more than such a padding.
func Regroup(data []byte, from, to int, pad bool) ([]byte, api.Errno) {
	if !isWidth(from) || !isWidth(to) {
		return nil, api.ErrArg
	}
	out := make([]byte, 0, (len(data)*from+to-1)/to)
	rest, have := 0, 0
	for _, v := range data {
		if int(v)>>from != 0 {
			return nil, api.ErrForm
		}
		rest = rest<<from | int(v)
		have += from
		for have >= to {
			have -= to
			out = append(out, byte(rest>>have))
			rest &= 1<<have - 1
		}
	}
	if !pad && (have >= from || rest != 0) {
		return nil, api.ErrForm
	}
	if pad && have > 0 {
		out = append(out, byte(rest<<(to-have)))
	}
	return out, api.OK
}

func isWidth(n int) bool { return n >= 1 && n <= 8 }
