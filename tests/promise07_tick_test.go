package tests

import (
	"slices"
	"testing"

	"loop.example/g00847/impl"
)

// The tests of promise 7, as far as it tells of what is told again, and laid.

// tickTold is what the document says that SndTick tells: first it is looked
// up which pieces are due, and then they are told one by one.
func tickTold(s snd, now int64) impl.SndOut {
	if !hasSndForm(s) || !within(now, 0, most) {
		return sndCode(impl.ErrForm)
	}
	out := impl.SndOut{Snd: sndCopy(s)}
	for path, l := range s.Lines {
		told := 0
		for i, x := range l.Out {
			if x.At+l.Clock.Rto > now {
				continue
			}
			told++
			x.At, x.Tries = now, cutTo(x.Tries+1, 1, mostTries)
			out.Snd.Lines[path].Out[i] = x
			out.Segs = append(out.Segs, segTold(out.Snd, int64(path), x))
			if within(s.Base, x.Data, x.Data+x.Len-1) {
				layOnOthers(&out, path, x, now)
			}
		}
		if told > 0 {
			out.Snd.Lines[path].Clock, out.Snd.Lines[path].Most = slowed(l.Clock), 1
		}
	}
	askOnEach(&out, now)
	fillOn(&out, now)
	return out
}

func layOnOthers(out *impl.SndOut, path int, x sent, now int64) {
	for other, l := range out.Snd.Lines {
		has := slices.ContainsFunc(l.Out, func(y sent) bool { return y.Data == x.Data })
		if other != path && len(l.Out) < impl.MaxOut && !has {
			layTold(out, other, x.Data, x.Len, now)
		}
	}
}

func askOnEach(out *impl.SndOut, now int64) {
	for _, l := range out.Snd.Lines {
		if len(l.Out) > 0 {
			return
		}
	}
	if len(out.Snd.Text) == 0 && out.Snd.Open {
		return
	}
	for path := range out.Snd.Lines {
		layTold(out, path, out.Snd.Next, 0, now)
	}
}

// tickIs looks at the order in which pieces are told, place by place, and at
// what turned.
func tickIs(t *testing.T, what string, s snd, now int64, turn func(s *snd), segs ...seg) {
	t.Helper()
	out := impl.SndTick(s, now)
	same(t, what+": code", out.Code, impl.OK)
	for i := range min(len(segs), len(out.Segs)) {
		same(t, what+": piece "+shown(i), out.Segs[i], segs[i])
	}
	want := sndCopy(s)
	turn(&want)
	tickCall(now).tells(t, what, s, impl.SndOut{Snd: want, Segs: segs})
	tickCall(now).asTold(t, what, s)
}

func stays(s *snd) {}

// again is what became of a line of which something was told again.
func again(l *line, rto int64) {
	l.Clock.Rto, l.Most = rto, 1
}

// ticking has all out that may be sent: "ab" at Base on the first line, and
// "cd" and "ef" on the second one, which waits for 8, as the third one.
func ticking() snd {
	return snd{Base: 10, Text: "abcdefgh", Next: 16, Edge: 16, Open: true, Mss: 2, Lines: []line{
		{Clock: clock{Mean: 3, Var: 1, Rto: 7}, Most: 3, Next: 4, Out: []sent{{Sub: 3, Data: 10, Len: 2, At: 20, Tries: 1}}},
		{Clock: clock{Rto: 8}, Most: 2, Next: 9, Out: []sent{{Sub: 2, Data: 12, Len: 2, At: 20, Tries: 1}, {Sub: 8, Data: 14, Len: 2, At: 23, Tries: 4}}},
		{Clock: clock{Rto: 8}, Most: 2, Next: 5},
	}}
}

func TestTickWhenDue(t *testing.T) {
	s := ticking()
	for _, now := range []int64{0, 19, 20, 21, 26} {
		tickIs(t, "nothing is due", s, now, stays)
	}
	base := letters(0, 3, 10, "ab")
	onSecond, onThird := letters(1, 9, 10, "ab"), letters(2, 5, 10, "ab")
	turnFirst := func(s *snd) {
		s.Lines[0].Out[0].At, s.Lines[0].Out[0].Tries = 27, 2
		again(&s.Lines[0], 14)
		s.Lines[1].Out = append(s.Lines[1].Out, sent{Sub: 9, Data: 10, Len: 2, At: 27, Tries: 1})
		s.Lines[2].Out = []sent{{Sub: 5, Data: 10, Len: 2, At: 27, Tries: 1}}
		s.Lines[1].Next, s.Lines[2].Next = 10, 6
	}
	tickIs(t, "just so long", s, 27, turnFirst, base, onSecond, onThird)
	second, third := letters(1, 2, 12, "cd"), letters(1, 8, 14, "ef")
	for now, segs := range map[int64][]seg{28: {base, onSecond, onThird, second}, 30: {base, onSecond, onThird, second},
		31: {base, onSecond, onThird, second, third}, 84: {base, onSecond, onThird, second, third}, most: {base, onSecond, onThird, second, third}} {
		tickIs(t, "longer", s, now, func(s *snd) {
			turnFirst(s)
			s.Lines[0].Out[0].At, s.Lines[1].Out[2].At, s.Lines[2].Out[0].At = now, now, now
			for k := range len(segs) - 3 {
				s.Lines[1].Out[k].At = now
				s.Lines[1].Out[k].Tries++
			}
			again(&s.Lines[1], 16)
		}, segs...)
	}
	s.Lines[0].Out[0].At = 40
	for _, now := range []int64{0, 27} {
		tickIs(t, "sent later than now", s, now, stays)
	}
}

func TestTickTries(t *testing.T) {
	for tries := int64(1); tries <= mostTries; tries++ {
		s := ticking()
		s.Lines[1].Out[0].Tries = tries
		s.Lines[0].Out = nil
		tickIs(t, "told once more", s, 28, func(s *snd) {
			s.Lines[1].Out[0].At, s.Lines[1].Out[0].Tries = 28, min(tries+1, 100)
			again(&s.Lines[1], 16)
		}, letters(1, 2, 12, "cd"))
	}
}

// TestTickSlowsOnce: of the line that was told, whatever was told of it, and
// by its Rto as it stood there ahead of all.
func TestTickSlowsOnce(t *testing.T) {
	out := []sent{{Sub: 0, Data: 12, Len: 1, At: 10, Tries: 1}, {Sub: 1, Data: 13, Len: 1, At: 12, Tries: 1}, {Sub: 2, Data: 14, Len: 1, At: 13, Tries: 1}}
	for rto := int64(impl.RtoMin); rto <= impl.RtoMax; rto++ {
		s := snd{Base: 10, Text: "abcdef", Next: 16, Edge: 16, Open: true, Mss: 2, Lines: []line{
			{Clock: clock{Mean: 70, Var: 3, Rto: rto}, Most: 5, Next: 4, Out: out},
			{Clock: clock{Mean: 7, Var: 3, Rto: 64}, Most: 5, Next: 4, Out: []sent{{Sub: 2, Data: 15, Len: 1, At: 13, Tries: 1}}},
		}}
		tickIs(t, "two are due, one is not", s, 12+rto, func(s *snd) {
			for k := range 2 {
				s.Lines[0].Out[k].At, s.Lines[0].Out[k].Tries = 12+rto, 2
			}
			again(&s.Lines[0], min(2*rto, 64))
		}, letters(0, 0, 12, "c"), letters(0, 1, 13, "d"))
	}
}

// beside is a line that is not due, with so many pieces, none of which is at
// Base.
func beside(count int) line {
	l := line{Clock: clock{Rto: 64}, Most: 1, Next: int64(count), Out: outOf(count, 11)}
	for i := range l.Out {
		l.Out[i].At = 50
	}
	return l
}

// TestTickBase is of the piece that Base lies in, and of what the other lines
// have.
func TestTickBase(t *testing.T) {
	due := line{Clock: clock{Rto: 8}, Most: 2, Next: 2, Out: []sent{{Sub: 1, Data: 10, Len: 3, At: 42, Tries: 1}}}
	has := line{Clock: clock{Rto: 64}, Most: 1, Next: 9, Out: []sent{{Sub: 1, Data: 11, Len: 1, At: 50, Tries: 1}, {Sub: 8, Data: 10, Len: 3, At: 50, Tries: 1}}}
	hasNone := has
	hasNone.Out = []sent{{Sub: 2, Data: 10, At: 50, Tries: 1}} // of Len 0, but of that Data
	used, last := beside(0), beside(0)
	used.Next, last.Next = most, most-1
	base := func(path int64) seg { return letters(path, 1, 10, "abc") }
	on := func(path int64, sub int64) seg { return letters(path, sub, 10, "abc") }
	for _, c := range []struct {
		what  string
		lines []line
		segs  []seg
	}{
		{"no other line", []line{due}, []seg{base(0)}},
		{"an empty one", []line{due, beside(0)}, []seg{base(0), on(1, 0)}},
		{"one of 7", []line{due, beside(7)}, []seg{base(0), on(1, 7)}},
		{"one of 8", []line{due, beside(8)}, []seg{base(0)}},
		{"one of 8, and one of 7", []line{due, beside(8), beside(7)}, []seg{base(0), on(2, 7)}},
		{"one that has it", []line{due, has}, []seg{base(0)}},
		{"one that has it, and one that has not", []line{due, has, beside(1)}, []seg{base(0), on(2, 1)}},
		{"one that has that Data of Len 0", []line{due, hasNone}, []seg{base(0)}},
		{"one whose Next is MaxTime", []line{due, used}, []seg{base(0)}},
		{"one whose Next is one less", []line{due, last}, []seg{base(0), on(1, most-1)}},
		{"one whose Next is MaxTime, and one more", []line{due, used, beside(2)}, []seg{base(0), on(2, 2)}},
		{"the last one is due", []line{beside(1), beside(8), has, due}, []seg{base(3), on(0, 1)}},
		{"one in the midst is due", []line{beside(1), due, beside(0)}, []seg{base(1), on(0, 1), on(2, 0)}},
		{"two are due", []line{due, due}, []seg{base(0), base(1)}},
		{"two are due beside one", []line{due, beside(3), due}, []seg{base(0), on(1, 3), base(2)}},
		{"all of four", []line{due, beside(3), beside(0), beside(7)}, []seg{base(0), on(1, 3), on(2, 0), on(3, 7)}},
	} {
		s := snd{Base: 10, Text: "abcdefghijklmno", Next: 20, Edge: 20, Open: true, Mss: 3, Lines: c.lines}
		tickIs(t, c.what, s, 50, func(s *snd) {
			for path, l := range s.Lines {
				if l.Clock.Rto == 8 {
					s.Lines[path].Out[0].At, s.Lines[path].Out[0].Tries = 50, 2
					again(&s.Lines[path], 16)
				}
			}
			for _, x := range c.segs {
				if l := &s.Lines[x.Path]; x.Sub == l.Next {
					l.Out = append(l.Out, sent{Sub: x.Sub, Data: 10, Len: 3, At: 50, Tries: 1})
					l.Next++
				}
			}
		}, c.segs...)
		for _, l := range impl.SndTick(s, 50).Snd.Lines {
			same(t, c.what+": room", len(l.Out) <= impl.MaxOut, true)
		}
	}
}

// TestTickOrder has more than one due on each of two lines, among them the
// piece at Base, which is laid at once, ahead of what is told behind it.
func TestTickOrder(t *testing.T) {
	s := snd{Base: 10, Text: "abcdefghi", Next: 16, Edge: 30, Mss: 2, Lines: []line{
		{Clock: clock{Mean: 1, Rto: 4}, Most: 7, Next: 3, Out: []sent{{Sub: 0, Data: 12, Len: 1, Tries: 1}, {Sub: 1, Data: 10, Len: 2, Tries: 1}, {Sub: 2, Data: 13, Len: 1, Tries: 1}}},
		{Clock: clock{Mean: 9, Rto: 4}, Most: 7, Next: 8, Out: []sent{{Sub: 5, Data: 14, Len: 1, Tries: 1}, {Sub: 6, Data: 15, Len: 1, Tries: 1}}},
		{Clock: clock{Mean: 5, Rto: 4}, Most: 2, Next: 0},
		{Clock: clock{Mean: 7, Rto: 4}, Most: 2, Next: 4},
	}}
	closed := func(path int64, sub int64, data int64, text string) seg {
		return seg{Path: path, Sub: sub, Data: data, Text: text, End: 19}
	}
	tickIs(t, "order", s, 4, func(s *snd) { *s = tickTold(*s, 4).Snd },
		closed(0, 0, 12, "c"), closed(0, 1, 10, "ab"),
		closed(1, 8, 10, "ab"), closed(2, 0, 10, "ab"), closed(3, 4, 10, "ab"), // laid on the others
		closed(0, 2, 13, "d"),
		closed(1, 5, 14, "e"), closed(1, 6, 15, "f"), // not what was laid just now
		closed(2, 1, 16, "gh"), closed(3, 5, 18, "i")) // and then what is new: the other two have Most 1
	after := impl.SndTick(s, 4).Snd.Lines
	same(t, "the first ones are slow", [2]clock{after[0].Clock, after[1].Clock}, [2]clock{{Mean: 1, Rto: 8}, {Mean: 9, Rto: 8}})
	same(t, "the others are not", [2]clock{after[2].Clock, after[3].Clock}, [2]clock{{Mean: 5, Rto: 4}, {Mean: 7, Rto: 4}})
	same(t, "Most", [4]int64{after[0].Most, after[1].Most, after[2].Most, after[3].Most}, [4]int64{1, 1, 2, 2})
}

// TestTickOtherPieces: Base lies in no piece behind it, nor in one of Len 0.
func TestTickOtherPieces(t *testing.T) {
	for _, c := range []struct {
		x    sent
		text string
	}{
		{sent{Sub: 1, Data: 11, Len: 3, Tries: 1}, "bcd"},
		{sent{Sub: 1, Data: 10, Len: 0, Tries: 1}, ""},
		{sent{Sub: 1, Data: 20, Len: 0, Tries: 1}, ""},
		{sent{Sub: 1, Data: 19, Len: 1, Tries: 1}, "j"},
	} {
		s := snd{Base: 10, Text: "abcdefghijklmno", Next: 20, Edge: 20, Open: true, Mss: 3, Lines: []line{
			{Clock: clock{Rto: 8}, Most: 2, Next: 2, Out: []sent{c.x}}, beside(0), beside(3),
		}}
		tickIs(t, "others", s, 8, func(s *snd) {
			s.Lines[0].Out[0].At, s.Lines[0].Out[0].Tries = 8, 2
			again(&s.Lines[0], 16)
		}, letters(0, 1, c.x.Data, c.text))
	}
}

// TestTickNothingOut is of no Out on any line.
func TestTickNothingOut(t *testing.T) {
	asked := func(l *line, data int64) {
		l.Out = []sent{{Sub: l.Next, Data: data, At: 6, Tries: 1}}
		l.Next++
	}
	s := snd{Base: 10, Text: "abcd", Next: 12, Edge: 12, Open: true, Mss: 1, Lines: lines(3)}
	s.Lines[1].Next, s.Lines[2].Next = 7, most-1
	onEach := func(s *snd) {
		for i := range s.Lines {
			asked(&s.Lines[i], s.Next)
		}
	}
	tickIs(t, "Text, Open, at Edge", s, 6, onEach, letters(0, 0, 12, ""), letters(1, 7, 12, ""), letters(2, most-1, 12, ""))
	s.Open = false
	tickIs(t, "Text, closed, at Edge", s, 6, onEach, seg{Data: 12, End: 14}, seg{Path: 1, Sub: 7, Data: 12, End: 14}, seg{Path: 2, Sub: most - 1, Data: 12, End: 14})
	s.Text = "ab"
	tickIs(t, "Text, closed, at all", s, 6, onEach, seg{Data: 12, End: 12}, seg{Path: 1, Sub: 7, Data: 12, End: 12}, seg{Path: 2, Sub: most - 1, Data: 12, End: 12})
	s.Text, s.Base = "", 12
	tickIs(t, "no Text, closed", s, 6, onEach, seg{Data: 12, End: 12}, seg{Path: 1, Sub: 7, Data: 12, End: 12}, seg{Path: 2, Sub: most - 1, Data: 12, End: 12})
	s.Open = true
	for _, now := range []int64{0, 6, 100, most} {
		tickIs(t, "no Text, Open", s, now, stays)
	}
	s.Text, s.Edge = "abcd", 15
	tickIs(t, "and then what is new", s, 6, func(s *snd) {
		onEach(s)
		for i, l := range s.Lines[:2] {
			s.Lines[i].Out = append(l.Out, sent{Sub: l.Next, Data: s.Next, Len: 1, At: 6, Tries: 1})
			s.Lines[i].Next++
			s.Next++
		}
	}, letters(0, 0, 12, ""), letters(1, 7, 12, ""), letters(2, most-1, 12, ""), letters(0, 1, 12, "a"), letters(1, 8, 13, "b"))
	s.Edge, s.Lines[0].Next = 12, most
	tickIs(t, "one line's Next is MaxTime", s, 6, func(s *snd) {
		asked(&s.Lines[1], 12)
		asked(&s.Lines[2], 12)
	}, letters(1, 7, 12, ""), letters(2, most-1, 12, ""))
	s.Lines[1].Next, s.Lines[2].Next = most, most
	tickIs(t, "the Next of all is MaxTime", s, 6, stays)
	s.Edge = 15
	tickIs(t, "and there is what could be sent", s, 6, stays)
}

// TestTickSomethingOut: what is out on whichever line is enough.
func TestTickSomethingOut(t *testing.T) {
	for path := range 3 {
		for _, x := range []sent{{Data: 12, At: 5, Tries: 1}, {Data: 10, Len: 2, At: 5, Tries: 1}} {
			for _, open := range []bool{false, true} {
				s := snd{Base: 10, Text: "ab", Next: 12, Edge: 12, Open: open, Mss: 1, Lines: lines(3)}
				s.Lines[path].Next, s.Lines[path].Out = 1, []sent{x}
				tickIs(t, "something out", s, 12, stays)
			}
		}
	}
}

// TestTickAtMaxTime: a line whose Next is MaxTime tells again what it sent.
func TestTickAtMaxTime(t *testing.T) {
	s := snd{Base: 10, Text: "abcd", Next: 12, Edge: 14, Open: true, Mss: 1, Lines: lines(1)}
	s.Lines[0].Next, s.Lines[0].Out = most, []sent{{Sub: most - 1, Data: 10, Len: 1, At: most - 8, Tries: 1}}
	tickIs(t, "told again", s, most, func(s *snd) {
		s.Lines[0].Out[0].At, s.Lines[0].Out[0].Tries = most, 2
		again(&s.Lines[0], 16)
	}, letters(0, most-1, 10, "a"))
}

// TestTickFills: what is new goes behind what is told again, by the Most that
// each line has then.
func TestTickFills(t *testing.T) {
	s := ticking()
	s.Edge = 18
	out := impl.SndTick(s, 20)
	same(t, "nothing is due, one is new", len(out.Segs), 1)
	same(t, "on the first of those alike that has room", out.Segs[0], letters(2, 5, 16, "gh"))
	out = impl.SndTick(s, 27)
	same(t, "behind three others", len(out.Segs), 4)
	same(t, "the last one", out.Segs[3], letters(2, 6, 16, "gh"))
	s.Lines = s.Lines[:1]
	same(t, "not on the line of Most 1", len(impl.SndTick(s, 27).Segs), 1)
	same(t, "but if nothing is due", len(impl.SndTick(s, 26).Segs), 1)
}

func TestTickFaults(t *testing.T) {
	atWhateverTime(t, tickCall)
}

// TestTickEach goes through all that can be out of two pieces on three lines.
func TestTickEach(t *testing.T) {
	two := []sent{{Data: 10, Len: 2, At: 20, Tries: 1}, {Data: 12, Len: 1, At: 22, Tries: 99}}
	for bits := range 1 << 6 {
		for full := range 4 {
			s := snd{Base: 10, Text: "abcdef", Next: 14, Edge: 15, Open: bits%3 > 0, Mss: 2, Lines: lines(3)}
			for path := range s.Lines {
				l := &s.Lines[path]
				if path == full {
					l.Out = outAt(6-bits%2, 11)
				}
				for k, x := range two {
					if bits>>(2*path+k)&1 == 1 {
						x.Sub = int64(10 + k)
						l.Out = append(l.Out, x)
					}
				}
				l.Next = 20
			}
			for now := int64(27); now <= 31; now++ {
				tickCall(now).asTold(t, "each", s)
			}
		}
	}
}

// TestToldAtTheLatest: what is to be sent, and sent to nobody, is told when as
// long went by as one waits at most, however the clocks are.
func TestToldAtTheLatest(t *testing.T) {
	for _, s := range append(rightSnds(), ticking(), answered()) {
		s = sndCopy(s)
		for i := range s.Lines {
			s.Lines[i].Next = min(s.Lines[i].Next, most-9)
			s.Lines[i].Out = nil
		}
		for _, rto := range []int64{impl.RtoMin, 8, impl.RtoMax} {
			for _, out := range []int{0, 1, 8} {
				x := sndCopy(s)
				for i := range x.Lines {
					x.Lines[i].Clock.Rto, x.Lines[i].Next = rto, 8
					for sub := range int64(out) {
						x.Lines[i].Out = append(x.Lines[i].Out, sent{Sub: sub, Data: x.Next, At: 700, Tries: 1})
					}
				}
				told := len(impl.SndTick(x, 700+impl.RtoMax).Segs) > 0
				same(t, "told at the latest", told, out > 0 || x.Text != "" || !x.Open)
			}
		}
	}
}
