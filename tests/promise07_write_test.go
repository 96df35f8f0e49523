package tests

import (
	"slices"
	"strings"
	"testing"

	"loop.example/g00847/impl"
)

// The tests of promise 7, as far as it tells of what is written, closed, and
// sent for the first time.

func writeTold(s snd, text string) impl.SndOut {
	switch {
	case len(text) > impl.MaxBytes:
		return sndCode(impl.ErrSize)
	case !hasSndForm(s):
		return sndCode(impl.ErrForm)
	case !s.Open:
		return sndCode(impl.ErrState)
	case len(s.Text+text) > impl.MaxBuf || behindText(s)+int64(len(text)) > most:
		return sndCode(impl.ErrFull)
	}
	s = sndCopy(s)
	s.Text += text
	return impl.SndOut{Snd: s}
}

func closeTold(s snd) impl.SndOut {
	switch {
	case !hasSndForm(s):
		return sndCode(impl.ErrForm)
	case !s.Open:
		return sndCode(impl.ErrState)
	}
	s = sndCopy(s)
	s.Open = false
	return impl.SndOut{Snd: s}
}

// layTold lays a piece of such a Len on a line, if it can be.
func layTold(out *impl.SndOut, path int, data int64, size int64, now int64) {
	l := &out.Snd.Lines[path]
	if l.Next == most {
		return
	}
	x := sent{Sub: l.Next, Data: data, Len: size, At: now, Tries: 1}
	l.Out = slices.Concat(l.Out, []sent{x})
	l.Next++
	out.Segs = append(out.Segs, segTold(out.Snd, int64(path), x))
}

// fillTold sends piece by piece, and grows each of them byte by byte.
func fillTold(s snd, now int64) impl.SndOut {
	if !hasSndForm(s) || !within(now, 0, most) {
		return sndCode(impl.ErrForm)
	}
	out := impl.SndOut{Snd: sndCopy(s)}
	fillOn(&out, now)
	return out
}

func fillOn(out *impl.SndOut, now int64) {
	s := &out.Snd
	for s.Next < s.Edge && s.Next < behindText(*s) {
		path := turnOf(s.Lines)
		if path == -1 || s.Lines[path].Next == most {
			return
		}
		data, size := s.Next, int64(0)
		for size < s.Mss && s.Next < s.Edge && s.Next < behindText(*s) {
			size++
			s.Next++
		}
		layTold(out, path, data, size, now)
	}
}

// turnOf puts all lines with fewer than Most in the order of their Means.
func turnOf(all []line) int {
	var paths []int
	for path, l := range all {
		if int64(len(l.Out)) < l.Most {
			paths = append(paths, path)
		}
	}
	slices.SortStableFunc(paths, func(a int, b int) int { return int(all[a].Clock.Mean - all[b].Clock.Mean) })
	return append(paths, -1)[0]
}

func TestWriteCases(t *testing.T) {
	s := rightSnds()[5] // Base 20, Text of 16 bytes
	for _, c := range []struct {
		what string
		base int64
		size int // of Text
		text string
		code int64
	}{
		{"nothing behind nothing", 0, 0, "", impl.OK},
		{"nothing behind some", 20, 16, "", impl.OK},
		{"some behind nothing", 0, 0, "abc", impl.OK},
		{"some behind some", 20, 16, "\x00\xffxyz", impl.OK},
		{"as many as there is place for", 20, 16, strings.Repeat("x", impl.MaxBuf-16), impl.OK},
		{"one more", 20, 16, strings.Repeat("x", impl.MaxBuf-15), impl.ErrFull},
		{"200 behind nothing", 20, 0, strings.Repeat("x", impl.MaxBuf), impl.OK},
		{"201 behind nothing", 20, 0, strings.Repeat("x", impl.MaxBuf+1), impl.ErrFull},
		{"nothing behind 200", 20, impl.MaxBuf, "", impl.OK},
		{"one behind 200", 20, impl.MaxBuf, "x", impl.ErrFull},
		{"8000", 20, 16, strings.Repeat("x", impl.MaxBytes), impl.ErrFull},
		{"8001", 20, 16, strings.Repeat("x", impl.MaxBytes+1), impl.ErrSize},
		{"up to MaxTime", most - 5, 3, "xy", impl.OK},
		{"one more than MaxTime", most - 5, 3, "xyz", impl.ErrFull},
		{"nothing at MaxTime", most, 0, "", impl.OK},
		{"one at MaxTime", most, 0, "x", impl.ErrFull},
		{"behind all, and too much", most - 5, 3, strings.Repeat("x", impl.MaxBuf), impl.ErrFull},
	} {
		s := snd{Base: c.base, Text: alphabet[:c.size], Next: c.base, Edge: c.base, Open: true, Mss: 3, Lines: s.Lines[2:3]}
		want := sndCode(c.code)
		if c.code == impl.OK {
			want.Snd = sndCopy(s)
			want.Snd.Text += c.text
		}
		writeCall(c.text).tells(t, c.what, s, want)
		s.Open = false
		closed := sndCode(impl.ErrState)
		if c.code == impl.ErrSize {
			closed = want
		}
		writeCall(c.text).tells(t, c.what+", closed", s, closed)
		s.Mss = 0
		if c.code != impl.ErrSize {
			closed = sndCode(impl.ErrForm)
		}
		writeCall(c.text).tells(t, c.what+", closed, and not right", s, closed)
	}
}

func TestCloseCases(t *testing.T) {
	for _, s := range rightSnds() {
		s.Open = true
		want := impl.SndOut{Snd: sndCopy(s)}
		want.Snd.Open = false
		closeCall().tells(t, "open", s, want)
		closeCall().tells(t, "closed", want.Snd, sndCode(impl.ErrState))
		writeCall("").tells(t, "closed", want.Snd, sndCode(impl.ErrState))
		s.Mss, want.Snd.Mss = 17, 17
		closeCall().tells(t, "open, not right", s, sndCode(impl.ErrForm))
		closeCall().tells(t, "closed, not right", want.Snd, sndCode(impl.ErrForm))
	}
}

// letters are a piece, as it is told of one that is Open.
func letters(path int64, sub int64, data int64, text string) seg {
	return seg{Path: path, Sub: sub, Data: data, Text: text, End: -1}
}

// fillIs looks at the order in which pieces are told, place by place.
func fillIs(t *testing.T, what string, s snd, segs ...seg) impl.SndOut {
	t.Helper()
	out := impl.SndFill(s, 9)
	same(t, what+": code", out.Code, impl.OK)
	same(t, what+": how many", len(out.Segs), len(segs))
	for i, want := range segs {
		same(t, what+": piece "+shown(i), out.Segs[i], want)
	}
	fillCall(9).asTold(t, what, s)
	return out
}

func TestFillPieces(t *testing.T) {
	s := snd{Text: "abcdefghij", Edge: 7, Open: true, Mss: 3, Lines: lines(1)}
	s.Lines[0].Most = 7
	out := fillIs(t, "to Edge", s, letters(0, 0, 0, "abc"), letters(0, 1, 3, "def"), letters(0, 2, 6, "g"))
	same(t, "Next at Edge", out.Snd.Next, 7)
	want := []sent{{Sub: 0, Data: 0, Len: 3, At: 9, Tries: 1}, {Sub: 1, Data: 3, Len: 3, At: 9, Tries: 1}, {Sub: 2, Data: 6, Len: 1, At: 9, Tries: 1}}
	same(t, "what is out", slices.Equal(out.Snd.Lines[0].Out, want), true)
	same(t, "the line's Next", out.Snd.Lines[0].Next, 3)
	fillIs(t, "at Edge", out.Snd)
	s.Edge = 100
	out = fillIs(t, "to all", s, letters(0, 0, 0, "abc"), letters(0, 1, 3, "def"), letters(0, 2, 6, "ghi"), letters(0, 3, 9, "j"))
	same(t, "Next at all", out.Snd.Next, 10)
	fillIs(t, "at all", out.Snd)
	s.Edge = 6
	fillIs(t, "just to Edge", s, letters(0, 0, 0, "abc"), letters(0, 1, 3, "def"))
	s.Next, s.Edge = 6, 7
	fillIs(t, "one below Edge", s, letters(0, 0, 6, "g"))
	s.Next, s.Edge = 9, 20
	fillIs(t, "one below all", s, letters(0, 0, 9, "j"))
	s.Next, s.Edge, s.Open = 8, 10, false
	fillIs(t, "closed", s, seg{Data: 8, Text: "ij", End: 10})
	s.Next, s.Edge, s.Open, s.Mss = 0, 10, true, 16
	fillIs(t, "Mss more than there is", s, letters(0, 0, 0, "abcdefghij"))
	s.Mss, s.Base, s.Next, s.Edge = 1, 5, 7, 9
	fillIs(t, "behind a Base, one by one", s, letters(0, 0, 7, "c"), letters(0, 1, 8, "d"))
	s.Text, s.Next = "", 5
	fillIs(t, "nothing is written", s)
}

// lineOf has such a Mean and Most, and so many Out, of no bytes.
func lineOf(mean int64, mostOut int64, out int) line {
	l := line{Clock: clock{Mean: mean, Rto: 8}, Most: mostOut, Next: int64(out)}
	for sub := range int64(out) {
		l.Out = append(l.Out, sent{Sub: sub, Tries: 1})
	}
	return l
}

func TestFillLines(t *testing.T) {
	s := snd{Text: "abcdef", Edge: 6, Open: true, Mss: 1}
	for _, c := range []struct {
		what  string
		lines []line
		paths []int64 // on which the bytes go, one by one
	}{
		{"alike", []line{lineOf(5, 2, 0), lineOf(5, 2, 0), lineOf(5, 2, 0)}, []int64{0, 0, 1, 1, 2, 2}},
		{"the last one least", []line{lineOf(5, 7, 0), lineOf(5, 7, 0), lineOf(4, 2, 0)}, []int64{2, 2, 0, 0, 0, 0}},
		{"the second one least", []line{lineOf(9, 1, 0), lineOf(3, 2, 0), lineOf(8, 2, 0), lineOf(9, 7, 0)}, []int64{1, 1, 2, 2, 0, 3}},
		{"the first one least", []line{lineOf(0, 3, 0), lineOf(1, 7, 0)}, []int64{0, 0, 0, 1, 1, 1}},
		{"two alike behind a slow one", []line{lineOf(1000, 7, 0), lineOf(999, 1, 0), lineOf(999, 2, 0)}, []int64{1, 2, 2, 0, 0, 0}},
		{"Var and Rto turn nothing", []line{{Clock: clock{Mean: 6, Var: 0, Rto: 4}, Most: 7}, {Clock: clock{Mean: 5, Var: 1000, Rto: 64}, Most: 7}}, []int64{1, 1, 1, 1, 1, 1}},
		{"one fewer than Most", []line{lineOf(5, 3, 2), lineOf(9, 1, 0)}, []int64{0, 1}},
		{"as many as Most", []line{lineOf(5, 2, 2), lineOf(9, 2, 1)}, []int64{1}},
		{"more than Most", []line{lineOf(5, 1, 2), lineOf(9, 3, 0)}, []int64{1, 1, 1}},
		{"eight, and Most 7", []line{lineOf(5, 7, 8), lineOf(9, 7, 6)}, []int64{1}},
		{"none has room", []line{lineOf(5, 2, 2), lineOf(9, 1, 8)}, nil},
		{"all of them", []line{lineOf(5, 7, 0)}, []int64{0, 0, 0, 0, 0, 0}},
	} {
		s.Lines = c.lines
		var segs []seg
		next := map[int64]int64{}
		for i, path := range c.paths {
			segs = append(segs, letters(path, c.lines[path].Next+next[path], int64(i), alphabet[i:i+1]))
			next[path]++
		}
		out := fillIs(t, c.what, s, segs...)
		same(t, c.what+": Next", out.Snd.Next, int64(len(c.paths)))
	}
}

// TestFillAtMaxTime: a line whose Next is MaxTime takes nothing; and if it is
// its turn, no other one does.
func TestFillAtMaxTime(t *testing.T) {
	used, last, new := lineOf(5, 2, 0), lineOf(5, 3, 0), lineOf(5, 1, 0)
	used.Next, last.Next = most, most-1
	slow := used
	slow.Clock.Mean = 6
	busy := lineOf(5, 1, 1)
	busy.Next = most
	s := snd{Text: "abcdef", Edge: 6, Open: true, Mss: 2}
	for _, c := range []struct {
		what  string
		lines []line
		segs  []seg
	}{
		{"it alone", []line{used}, nil},
		{"it is the first of those alike", []line{used, new}, nil},
		{"it is the second of those alike", []line{new, used}, []seg{letters(0, 0, 0, "ab")}},
		{"it is slower", []line{slow, new}, []seg{letters(1, 0, 0, "ab")}},
		{"it has no room, so it is not its turn", []line{busy, new}, []seg{letters(1, 0, 0, "ab")}},
		{"it comes to MaxTime", []line{last, new}, []seg{letters(0, most-1, 0, "ab")}},
	} {
		s.Lines = c.lines
		fillIs(t, c.what, s, c.segs...)
	}
}

func TestFillFaults(t *testing.T) {
	atWhateverTime(t, fillCall)
}

// atWhateverTime is of a now that is a time, and of one that is none, of each
// right one, and with a fault in it.
func atWhateverTime(t *testing.T, call func(now int64) sndCall) {
	t.Helper()
	for _, s := range rightSnds() {
		wrong := sndCopy(s)
		wrong.Lines[0].Clock.Rto = 3
		for _, now := range wrongTimes {
			call(now).tells(t, "now is no time", s, sndCode(impl.ErrForm))
			call(now).tells(t, "both", wrong, sndCode(impl.ErrForm))
		}
		for _, now := range rightTimes {
			call(now).asTold(t, "at a time", s)
			call(now).tells(t, "not right", wrong, sndCode(impl.ErrForm))
		}
	}
}

// TestFillEach goes through all Bases, Nexts, Edges and Mss of a small one.
func TestFillEach(t *testing.T) {
	for size := range 7 {
		for next := range int64(size + 1) {
			for edge := next; edge < 10; edge++ {
				for mss := int64(1); mss < 8; mss++ {
					for _, base := range []int64{0, 3, most - 9} {
						s := snd{Base: base, Text: alphabet[:size], Next: base + next, Edge: base + edge, Open: edge%2 == 0, Mss: mss}
						s.Lines = []line{{Clock: clock{Mean: edge % 3, Rto: 8}, Most: 1}, {Clock: clock{Mean: 1, Rto: 8}, Most: mss%3 + 1, Next: most - 2}}
						fillCall(edge).asTold(t, "each", s)
					}
				}
			}
		}
	}
}
