package tests

import (
	"slices"
	"testing"

	"loop.example/g00847/impl"
)

// The tests of promise 7, as far as it tells of what is answered.

// answerTold is what the document says that SndAck tells of an answer that is
// right, worked out on the single places of each piece.
func answerTold(s snd, a ack, now int64) impl.SndOut {
	switch {
	case !hasSndForm(s) || !within(now, 0, most):
		return sndCode(impl.ErrForm)
	case a.Data > s.Next:
		return sndCode(impl.ErrRange)
	case !within(a.Path, 0, int64(len(s.Lines))-1):
		return sndCode(impl.ErrNone)
	}
	s = sndCopy(s)
	if a.Edge > s.Edge {
		s.Edge = a.Edge
	}
	for s.Base < a.Data {
		s.Base++
		s.Text = s.Text[1:]
	}
	l := &s.Lines[a.Path]
	for len(l.Out) > 0 && l.Out[0].Sub < a.Sub {
		if x := l.Out[0]; x.Tries == 1 && now >= x.At {
			l.Clock = sampled(l.Clock, now-x.At)
			l.Most = cutTo(l.Most+1, 1, mostMost)
		}
		l.Out = l.Out[1:]
	}
	for i := range s.Lines {
		s.Lines[i].Out = leftFrom(s.Lines[i].Out, s.Base)
	}
	return impl.SndOut{Snd: s}
}

// leftFrom are those pieces of which a byte is left, from Base on, and those
// without one that stand behind it.
func leftFrom(out []sent, base int64) []sent {
	var left []sent
	for _, x := range out {
		first, count := x.Data, int64(0)
		for place := x.Data + x.Len - 1; place >= max(x.Data, base); place-- {
			first = place
			count++
		}
		if count > 0 || x.Len == 0 && x.Data > base {
			left = append(left, sent{Sub: x.Sub, Data: first, Len: count, At: x.At, Tries: x.Tries})
		}
	}
	return left
}

// answered has pieces of three bytes out on two lines, of which it wrote
// those from 10 on.
func answered() snd {
	return snd{Base: 10, Text: "abcdefghijklmnop", Next: 22, Edge: 24, Open: true, Mss: 3, Lines: []line{
		{Clock: clock{Mean: 8, Var: 4, Rto: 24}, Most: 3, Next: 5, Out: []sent{{Sub: 2, Data: 10, Len: 3, At: 50, Tries: 1}, {Sub: 4, Data: 16, Len: 3, At: 52, Tries: 2}}},
		{Clock: clock{Rto: 8}, Most: 2, Next: 3, Out: []sent{{Sub: 0, Data: 13, Len: 3, At: 51, Tries: 1}, {Sub: 1, Data: 19, Len: 3, At: 60, Tries: 1}}},
	}}
}

// ackIs looks at the one case that is written by hand, and at the model.
func ackIs(t *testing.T, what string, s snd, a ack, now int64, turn func(s *snd)) {
	t.Helper()
	want := sndCopy(s)
	turn(&want)
	ackCall(a, now).tells(t, what, s, impl.SndOut{Snd: want})
	ackCall(a, now).asTold(t, what, s)
}

func TestAckEdge(t *testing.T) {
	s := answered()
	for _, c := range [][2]int64{{0, 24}, {23, 24}, {24, 24}, {25, 25}, {100, 100}, {most, most}} {
		ackIs(t, "edge", s, ack{Path: 1, Edge: c[0]}, 60, func(s *snd) { s.Edge = c[1] })
	}
}

func TestAckData(t *testing.T) {
	s := answered()
	for _, data := range []int64{0, 1, 9, 10} {
		ackIs(t, "not above Base", s, ack{Data: data}, 60, func(s *snd) {})
	}
	ackIs(t, "in the midst of the first piece", s, ack{Data: 12}, 60, func(s *snd) {
		s.Base, s.Text = 12, "cdefghijklmnop"
		s.Lines[0].Out[0].Data, s.Lines[0].Out[0].Len = 12, 1
	})
	ackIs(t, "at the end of the first piece", s, ack{Path: 1, Data: 13}, 60, func(s *snd) {
		s.Base, s.Text = 13, "defghijklmnop"
		s.Lines[0].Out = s.Lines[0].Out[1:]
	})
	ackIs(t, "in the midst of a piece on another line", s, ack{Data: 14}, 60, func(s *snd) {
		s.Base, s.Text = 14, "efghijklmnop"
		s.Lines[0].Out = s.Lines[0].Out[1:]
		s.Lines[1].Out[0].Data, s.Lines[1].Out[0].Len = 14, 2
	})
	ackIs(t, "at the end of a piece on another line", s, ack{Data: 16}, 60, func(s *snd) {
		s.Base, s.Text = 16, "ghijklmnop"
		s.Lines[0].Out, s.Lines[1].Out = s.Lines[0].Out[1:], s.Lines[1].Out[1:]
	})
	ackIs(t, "one ahead of Next", s, ack{Data: 21}, 60, func(s *snd) {
		s.Base, s.Text = 21, "lmnop"
		s.Lines[0].Out, s.Lines[1].Out = nil, []sent{{Sub: 1, Data: 21, Len: 1, At: 60, Tries: 1}}
	})
	ackIs(t, "at Next", s, ack{Data: 22}, 60, func(s *snd) {
		s.Base, s.Text = 22, "mnop"
		s.Lines[0].Out, s.Lines[1].Out = nil, nil
	})
	ackCall(ack{Data: 23}, 60).tells(t, "above Next", s, sndCode(impl.ErrRange))
	s.Text = s.Text[:12]
	ackIs(t, "at all", s, ack{Data: 22}, 60, func(s *snd) {
		s.Base, s.Text = 22, ""
		s.Lines[0].Out, s.Lines[1].Out = nil, nil
	})
}

func TestAckSub(t *testing.T) {
	s := answered()
	for _, sub := range []int64{0, 1, 2} {
		ackIs(t, "below the first Sub, and at it", s, ack{Sub: sub, Data: 10}, 60, func(s *snd) {})
	}
	for _, sub := range []int64{3, 4} {
		ackIs(t, "above the first Sub", s, ack{Sub: sub, Data: 10}, 60, func(s *snd) {
			s.Lines[0].Out = s.Lines[0].Out[1:]
			s.Lines[0].Clock, s.Lines[0].Most = clock{Mean: 8, Var: 3, Rto: 20}, 4 // it took 10
		})
	}
	for _, sub := range []int64{5, 6, most} {
		ackIs(t, "above all; the second one was told twice", s, ack{Sub: sub}, 60, func(s *snd) {
			s.Lines[0].Out = nil
			s.Lines[0].Clock, s.Lines[0].Most = clock{Mean: 8, Var: 3, Rto: 20}, 4
		})
	}
	ackIs(t, "two answered at once", s, ack{Path: 1, Sub: 2}, 60, func(s *snd) {
		s.Lines[1].Out = nil
		s.Lines[1].Clock, s.Lines[1].Most = clock{Mean: 7, Var: 5, Rto: 27}, 4 // 9 first: 9, 4; then 0: Var 21/4, Mean 63/8
	})
	ackIs(t, "the second one was sent later than now", s, ack{Path: 1, Sub: 2}, 59, func(s *snd) {
		s.Lines[1].Out = nil
		s.Lines[1].Clock, s.Lines[1].Most = clock{Mean: 8, Var: 4, Rto: 24}, 3
	})
	ackIs(t, "both were sent later than now", s, ack{Path: 1, Sub: 2}, 0, func(s *snd) { s.Lines[1].Out = nil })
	ackIs(t, "answered just now", s, ack{Path: 1, Sub: 1}, 51, func(s *snd) {
		s.Lines[1].Out = s.Lines[1].Out[1:]
		s.Lines[1].Clock, s.Lines[1].Most = clock{Rto: 4}, 3
	})
	ackIs(t, "long ago", s, ack{Path: 1, Sub: 1}, most, func(s *snd) {
		s.Lines[1].Out = s.Lines[1].Out[1:]
		s.Lines[1].Clock, s.Lines[1].Most = clock{Mean: 1000, Var: 500, Rto: 64}, 3
	})
}

func TestAckMost(t *testing.T) {
	for mostOut := int64(1); mostOut <= mostMost; mostOut++ {
		for tries := int64(1); tries <= 3; tries++ {
			s := answered()
			s.Lines[0].Most, s.Lines[0].Out[0].Tries = mostOut, tries
			ackIs(t, "most", s, ack{Sub: 3}, 58, func(s *snd) {
				s.Lines[0].Out = s.Lines[0].Out[1:]
				if tries == 1 {
					s.Lines[0].Clock, s.Lines[0].Most = clock{Mean: 8, Var: 3, Rto: 20}, min(mostOut+1, 7)
				}
			})
		}
	}
	s := snd{Text: "abcdefgh", Next: 8, Edge: 8, Open: true, Mss: 1, Lines: []line{{Clock: clock{Mean: 8, Rto: 8}, Most: 1, Next: 8, Out: outOf(8, 0)}}}
	ackIs(t, "eight at once", s, ack{Sub: 8}, 8, func(s *snd) {
		s.Lines[0].Out = nil
		s.Lines[0].Most = 7
	})
}

// TestAckSubAndData: what goes by its Sub is a sample, what goes by its place
// is none; and a Sub is of its own line alone.
func TestAckSubAndData(t *testing.T) {
	s := answered()
	ackIs(t, "both", s, ack{Path: 0, Sub: 3, Data: 16, Edge: 30}, 60, func(s *snd) {
		s.Base, s.Text, s.Edge = 16, "ghijklmnop", 30
		s.Lines[0].Out, s.Lines[1].Out = s.Lines[0].Out[1:], s.Lines[1].Out[1:]
		s.Lines[0].Clock, s.Lines[0].Most = clock{Mean: 8, Var: 3, Rto: 20}, 4
	})
	ackIs(t, "by the place alone", s, ack{Path: 0, Sub: 2, Data: 13}, 60, func(s *snd) {
		s.Base, s.Text = 13, "defghijklmnop"
		s.Lines[0].Out = s.Lines[0].Out[1:]
	})
	s.Lines[1].Out[0].Sub, s.Lines[1].Out[1].Sub, s.Lines[1].Next = 2, 3, 5
	ackIs(t, "the other line has such Subs, too", s, ack{Path: 0, Sub: 3}, 60, func(s *snd) {
		s.Lines[0].Out = s.Lines[0].Out[1:]
		s.Lines[0].Clock, s.Lines[0].Most = clock{Mean: 8, Var: 3, Rto: 20}, 4
	})
}

// TestAckOfNoBytes is of pieces of Len 0, at Base, and behind it.
func TestAckOfNoBytes(t *testing.T) {
	s := snd{Base: 10, Text: "abcdef", Next: 14, Edge: 14, Mss: 3, Lines: []line{
		{Clock: clock{Rto: 8}, Most: 2, Next: 9, Out: []sent{{Sub: 3, Data: 10, At: 1, Tries: 1}, {Sub: 4, Data: 11, At: 1, Tries: 1}, {Sub: 5, Data: 10, Len: 1, At: 1, Tries: 1}}},
		{Clock: clock{Rto: 8}, Most: 2, Next: 9, Out: []sent{{Sub: 4, Data: 10, At: 1, Tries: 1}, {Sub: 6, Data: 14, At: 1, Tries: 1}}},
	}}
	for _, data := range []int64{0, 10} {
		ackIs(t, "those at Base go", s, ack{Path: 1, Data: data}, 5, func(s *snd) {
			s.Lines[0].Out, s.Lines[1].Out = s.Lines[0].Out[1:], s.Lines[1].Out[1:]
		})
	}
	ackIs(t, "those ahead of the new Base, and at it", s, ack{Path: 0, Data: 11}, 5, func(s *snd) {
		s.Base, s.Text = 11, "bcdef"
		s.Lines[0].Out, s.Lines[1].Out = nil, s.Lines[1].Out[1:]
	})
	ackIs(t, "at Next, which is not all", s, ack{Path: 0, Data: 14}, 5, func(s *snd) {
		s.Base, s.Text = 14, "ef"
		s.Lines[0].Out, s.Lines[1].Out = nil, nil
	})
	ackIs(t, "by its Sub it is a sample", s, ack{Path: 1, Sub: 5}, 5, func(s *snd) {
		s.Lines[0].Out, s.Lines[1].Out = s.Lines[0].Out[1:], s.Lines[1].Out[1:]
		s.Lines[1].Clock, s.Lines[1].Most = clock{Mean: 4, Var: 2, Rto: 12}, 3
	})
}

// TestAckAtTheLimits is of places, times and Subs near MaxTime.
func TestAckAtTheLimits(t *testing.T) {
	s := snd{Base: most - 6, Text: "abcdef", Next: most, Edge: most, Open: true, Mss: 6, Lines: []line{{Clock: clock{Rto: 8}, Most: 2, Next: most, Out: []sent{{Sub: most - 1, Data: most - 6, Len: 6, At: most, Tries: 1}}}}}
	ackIs(t, "all", s, ack{Sub: most, Data: most, Edge: most}, most, func(s *snd) {
		s.Base, s.Text = most, ""
		s.Lines[0].Out, s.Lines[0].Most, s.Lines[0].Clock = nil, 3, clock{Rto: 4}
	})
	ackIs(t, "all but one", s, ack{Sub: most - 1, Data: most - 1, Edge: most}, most, func(s *snd) {
		s.Base, s.Text = most-1, "f"
		s.Lines[0].Out[0].Data, s.Lines[0].Out[0].Len = most-1, 1
	})
}

// TestAckFaultsInOrder hands in more than one thing that is not right.
func TestAckFaultsInOrder(t *testing.T) {
	for _, s := range rightSnds() {
		wrong := sndCopy(s)
		wrong.Mss = 17
		for path := int64(len(s.Lines)); path < mostPaths; path++ {
			ackCall(ack{Path: path, Data: s.Next}, 5).tells(t, "no such path", s, sndCode(impl.ErrNone))
		}
		if s.Next == most {
			continue
		}
		for path := range int64(mostPaths) {
			above := ack{Path: path, Data: s.Next + 1}
			ackCall(above, 5).tells(t, "above Next, on whatever path", s, sndCode(impl.ErrRange))
			ackCall(above, 5).tells(t, "and not right", wrong, sndCode(impl.ErrForm))
			for _, now := range wrongTimes {
				ackCall(above, now).tells(t, "and now is no time", s, sndCode(impl.ErrForm))
				ackCall(above, now).tells(t, "and both", wrong, sndCode(impl.ErrForm))
			}
		}
	}
	for _, s := range rightSnds() {
		for _, now := range wrongTimes {
			ackCall(ack{}, now).tells(t, "now alone", s, sndCode(impl.ErrForm))
		}
	}
}

// wrongAcks are not right in one field.
func wrongAcks(a ack) []ack {
	var all []ack
	x := a
	for _, x.Path = range wrongPaths {
		all = append(all, x)
	}
	for _, n := range wrongTimes {
		sub, data, edge := a, a, a
		sub.Sub, data.Data, edge.Edge = n, n, n
		all = append(all, sub, data, edge)
	}
	return all
}

// TestAnswerNotRight: with an answer that is not right, too, nothing is told
// beside a code, and who writes stays right.
func TestAnswerNotRight(t *testing.T) {
	for _, s := range append(rightSnds(), answered()) {
		before := sndCopy(s)
		for _, a := range append(wrongAcks(ack{Sub: 3, Data: s.Base, Edge: s.Edge}), wrongAcks(ack{Path: 3, Data: min(s.Next+1, most)})...) {
			out := impl.SndAck(s, a, 60)
			if out.Code != impl.OK {
				sndIs(t, shown(a), out, sndCode(out.Code))
				continue
			}
			same(t, "right behind "+shown(a), impl.SndRight(out.Snd), true)
		}
		same(t, "no such path", impl.SndAck(s, ack{Path: mostPaths}, 60).Code != impl.OK, true)
		same(t, "no path", impl.SndAck(s, ack{Path: -1}, 60).Code != impl.OK, true)
		same(t, "not changed", sameSnd(s, before), true)
	}
}

// TestAckEach goes through all places and Subs about some pieces on two lines.
func TestAckEach(t *testing.T) {
	for data := int64(0); data <= 25; data++ {
		for sub := range int64(8) {
			for path := range int64(3) {
				for now := int64(49); now <= 62; now++ {
					for _, edge := range []int64{0, 24, 26} {
						ackCall(ack{Path: path, Sub: sub, Data: data, Edge: edge}, now).asTold(t, "each", answered())
					}
				}
			}
		}
	}
}

// TestAckEachPiece goes through all pieces about a new Base.
func TestAckEachPiece(t *testing.T) {
	for data := int64(10); data <= 22; data++ {
		for size := int64(0); data+size <= 22; size++ {
			x := sent{Sub: 1, Data: data, Len: size, At: 3, Tries: 1 + data%2}
			s := answered()
			s.Lines = append(s.Lines, line{Clock: clock{Rto: 8}, Most: 1, Next: 2, Out: []sent{x}})
			for to := int64(9); to <= 22; to++ {
				for path := range int64(3) {
					ackCall(ack{Path: path, Sub: 1, Data: to}, 60).asTold(t, "each piece", s)
				}
				out := impl.SndAck(s, ack{Data: to}, 60).Snd
				stays := data+size > max(to, 10)
				same(t, "it stays", slices.ContainsFunc(out.Lines[2].Out, func(y sent) bool { return y.Data+y.Len == data+size }), stays)
			}
		}
	}
}
