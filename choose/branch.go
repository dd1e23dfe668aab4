package choose

import "strongbox/api"

// search is a hand with what is selected of it. Of its tries those remain that were not needed yet.
type search struct {
	hand
	picked []coin
}

func (h hand) branch() ([]coin, api.Errno) {
	s := search{hand: h}
	if !s.step(0, 0, h.total) {
		return nil, api.ErrNone
	}
	return s.picked, api.OK
}

// step tries what is selected among the first n coins, which has a sum, and what begins with that; all other coins are worth rest. It reports whether one of these selections is right, which remains selected then.
func (s *search) step(n int, sum, rest int64) bool {
	if s.Tries == 0 {
		return false
	}
	s.Tries--
	if sum >= s.Need {
		return sum-s.Need <= s.Extra
	}
	if sum+rest < s.Need {
		return false
	}
	c := s.coins[n]
	s.picked = append(s.picked, c)
	if s.step(n+1, sum+c.worth, rest-c.worth) {
		return true
	}
	s.picked = s.picked[:len(s.picked)-1]
	return s.step(n+1, sum, rest-c.worth)
}
