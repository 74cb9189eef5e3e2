package emit

import "hackamore/api"

// checkMoves returns the error of moves.
func checkMoves(l []Move, free int) api.Errno {
	for _, m := range l {
		if m.To < 0 || m.From < 0 || free == m.To || free == m.From {
			return api.ErrArg
		}
	}
	if free < 0 {
		return api.ErrArg
	}
	seen := map[int]bool{}
	for _, m := range l {
		if seen[m.To] {
			return api.ErrTwice
		}
		seen[m.To] = true
	}
	return api.OK
}

// sequencer puts moves one after the other: waiting are those that were not made, by their To; readers tells how many of them read a register.
type sequencer struct {
	waiting map[int]int
	readers map[int]int
	out     []Move
}

// Sequence returns moves one after the other that do what moves do at once, with a register that is free.
func Sequence(l []Move, free int) ([]Move, api.Errno) {
	if e := checkMoves(l, free); e != api.OK {
		return nil, e
	}
	s := &sequencer{waiting: map[int]int{}, readers: map[int]int{}}
	for _, m := range l {
		if m.To != m.From {
			s.waiting[m.To] = m.From
			s.readers[m.From]++
		}
	}
	for _, m := range l {
		s.chain(m.To)
	}
	for _, m := range l { // what still waits are circles
		if _, waits := s.waiting[m.To]; waits {
			s.circle(m.To, free)
		}
	}
	return s.out, api.OK
}

// circle makes the moves of a circle: what the first register had is kept in the one that is free.
func (s *sequencer) circle(first, free int) {
	s.out = append(s.out, Move{free, first})
	s.readers[first] = 0
	s.chain(first)
	s.out[len(s.out)-1].From = free
}

// chain makes the move to a register, if no other one that waits reads it, and then those that have waited for this alone.
func (s *sequencer) chain(to int) {
	for s.readers[to] == 0 {
		from, ok := s.waiting[to]
		if !ok {
			return
		}
		delete(s.waiting, to)
		s.out = append(s.out, Move{to, from})
		s.readers[from]--
		to = from
	}
}
