package tests

import (
	"math"
	"slices"
	"strings"
	"testing"

	"loop.example/g00847/impl"
)

// The tests of promise 8, as far as it tells of what each kind of event does,
// written down by hand, and of which fault is named first.

// turns looks at the one case that is written by hand, and at the model.
func turns(t *testing.T, what string, c conn, e event, turn func(out *impl.ConnOut)) conn {
	t.Helper()
	want := impl.ConnOut{Conn: connCopy(c)}
	turn(&want)
	doIs(t, what, c, e, want)
	doAsTold(t, what, c, e)
	return want.Conn
}

func tellsCode(t *testing.T, what string, c conn, e event, code int64) {
	t.Helper()
	doIs(t, what, c, e, connCode(code))
	doAsTold(t, what, c, e)
}

func nothing(out *impl.ConnOut) {}

// there and back are what flies on a path when it is put behind the others.
func there(out *impl.ConnOut, segs ...seg) {
	for _, s := range segs {
		list := listOf(out.Conn.Net, s.Path, false)
		*list = append(*list, pieceBytes(s))
	}
}

func back(out *impl.ConnOut, acks ...ack) {
	for _, a := range acks {
		list := listOf(out.Conn.Net, a.Path, true)
		*list = append(*list, answerBytes(a))
	}
}

// outBehind is a line with pieces more out, each sent at a time.
func outBehind(l *line, now int64, data int64, sizes ...int64) {
	for _, size := range sizes {
		l.Out = append(l.Out, sent{Sub: l.Next, Data: data, Len: size, At: now, Tries: 1})
		l.Next++
		data += size
	}
}

// TestOneByOne goes on, event by event, from nothing to all that was read.
func TestOneByOne(t *testing.T) {
	c := newConn(2, 3, 6, 12)
	c = turns(t, "written", c, event{Kind: impl.EvWrite, Text: "abcdefgh"}, func(out *impl.ConnOut) {
		s := &out.Conn.Snd
		s.Text, s.Next = "abcdefgh", 6
		outBehind(&s.Lines[0], 0, 0, 3, 3)
		there(out, letters(0, 0, 0, "abc"), letters(0, 1, 3, "def"))
	})
	c = turns(t, "later", c, event{Kind: impl.EvTick, N: 5}, func(out *impl.ConnOut) { out.Conn.Now = 5 })
	c = turns(t, "the second one comes first", c, event{Kind: impl.EvTake, At: 1}, func(out *impl.ConnOut) {
		out.Conn.Net[0].There = out.Conn.Net[0].There[:1]
		out.Conn.Rcv.Pieces = []impl.Piece{{At: 3, Text: "def"}}
		out.Conn.Rcv.Froms[0].Late = []int64{1}
		back(out, ack{Edge: 6})
	})
	c = turns(t, "nothing to read yet", c, event{Kind: impl.EvRead, N: 9}, nothing)
	c = turns(t, "it comes", c, event{Kind: impl.EvTake}, func(out *impl.ConnOut) {
		out.Conn.Net[0].There = nil
		out.Conn.Rcv.Pieces = []impl.Piece{{At: 0, Text: "abcdef"}}
		out.Conn.Rcv.Froms[0] = from{Want: 2}
		back(out, ack{Sub: 2, Data: 6, Edge: 6})
	})
	c = turns(t, "read", c, event{Kind: impl.EvRead, N: 4}, func(out *impl.ConnOut) {
		r := &out.Conn.Rcv
		r.Read, r.Size, r.Edge, r.Pieces = 4, 12, 16, []impl.Piece{{At: 4, Text: "ef"}}
		out.Text = "abcd"
		back(out, ack{Sub: 2, Data: 6, Edge: 16}, ack{Path: 1, Data: 6, Edge: 16})
	})
	c = turns(t, "closed", c, event{Kind: impl.EvClose}, func(out *impl.ConnOut) { out.Conn.Snd.Open = false })
	c = turns(t, "it is known that all of these came", c, event{Kind: impl.EvTake, Back: true, At: 1}, func(out *impl.ConnOut) {
		s := &out.Conn.Snd
		s.Base, s.Text = 6, "gh"
		s.Lines[0].Clock, s.Lines[0].Most, s.Lines[0].Out = clock{Mean: 5, Var: 1, Rto: 9}, 4, nil // of two samples
		out.Conn.Net[0].Back = slices.Delete(out.Conn.Net[0].Back, 1, 2)
	})
	c = turns(t, "and that there is room, told on the other way", c, event{Kind: impl.EvTake, Path: 1, Back: true}, func(out *impl.ConnOut) {
		s := &out.Conn.Snd
		s.Edge, s.Next = 16, 8
		outBehind(&s.Lines[1], 5, 6, 2)
		out.Conn.Net[1].Back = nil
		there(out, seg{Path: 1, Data: 6, Text: "gh", End: 8})
	})
	c = turns(t, "the end comes", c, event{Kind: impl.EvTake, Path: 1}, func(out *impl.ConnOut) {
		r := &out.Conn.Rcv
		r.Pieces, r.End, r.Froms[1].Want = []impl.Piece{{At: 4, Text: "efgh"}}, 8, 1
		out.Conn.Net[1].There = nil
		back(out, ack{Path: 1, Sub: 1, Data: 8, Edge: 16})
	})
	c = turns(t, "all but the last one", c, event{Kind: impl.EvRead, N: 3}, func(out *impl.ConnOut) {
		r := &out.Conn.Rcv
		r.Read, r.Edge, r.Pieces = 7, 19, []impl.Piece{{At: 7, Text: "h"}}
		out.Text = "efg"
		back(out, ack{Sub: 2, Data: 8, Edge: 19}, ack{Path: 1, Sub: 1, Data: 8, Edge: 19})
	})
	turns(t, "all", c, event{Kind: impl.EvRead, N: 3}, func(out *impl.ConnOut) {
		r := &out.Conn.Rcv
		r.Read, r.Edge, r.Pieces = 8, 20, nil
		out.Text, out.Done = "h", true
		back(out, ack{Sub: 2, Data: 8, Edge: 20}, ack{Path: 1, Sub: 1, Data: 8, Edge: 20})
	})
}

func TestKinds(t *testing.T) {
	c := midway()
	for kind := int64(1); kind <= 9; kind++ {
		e := event{Kind: kind, N: 1, Text: "x"}
		same(t, "kind "+shown(kind), doAsTold(t, "each kind", c, e).Code, impl.OK)
	}
	for _, kind := range append([]int64{-9, -2, -1, 0, 10, 11, 12, 18, 256 + 1, 1 << 16}, farNumbers...) {
		tellsCode(t, "no kind", c, event{Kind: kind, N: 1, Text: "x"}, impl.ErrForm)
	}
	same(t, "the kinds", [9]int64{impl.EvWrite, impl.EvRead, impl.EvClose, impl.EvTake, impl.EvDrop, impl.EvTwice, impl.EvBend, impl.EvTick, impl.EvPut}, [9]int64{1, 2, 3, 4, 5, 6, 7, 8, 9})
}

func TestEvWrite(t *testing.T) {
	c := newConn(1, 2, 3, 3)
	turns(t, "nothing", c, event{Kind: impl.EvWrite}, nothing)
	turns(t, "as far as the edge", c, event{Kind: impl.EvWrite, Text: "abcd"}, func(out *impl.ConnOut) {
		out.Conn.Snd.Text, out.Conn.Snd.Next = "abcd", 3
		outBehind(&out.Conn.Snd.Lines[0], 0, 0, 2, 1)
		there(out, letters(0, 0, 0, "ab"), letters(0, 1, 2, "c"))
	})
	c = midway()
	free := impl.MaxBuf - len(c.Snd.Text)
	turns(t, "sent from Next on, at Now, on the line that may", c, event{Kind: impl.EvWrite, Text: "q"}, func(out *impl.ConnOut) {
		out.Conn.Snd.Text += "q"
		out.Conn.Snd.Next = 14
		outBehind(&out.Conn.Snd.Lines[0], 60, 12, 2)
		there(out, letters(0, 4, 12, "mn"))
	})
	turns(t, "as many as there is place for", c, event{Kind: impl.EvWrite, Text: alphabet[:free]}, func(out *impl.ConnOut) {
		out.Conn.Snd.Text += alphabet[:free]
		out.Conn.Snd.Next = 14
		outBehind(&out.Conn.Snd.Lines[0], 60, 12, 2)
		there(out, letters(0, 4, 12, "mn"))
	})
	turns(t, "of nothing it is filled, too", c, event{Kind: impl.EvWrite}, func(out *impl.ConnOut) {
		out.Conn.Snd.Next = 14
		outBehind(&out.Conn.Snd.Lines[0], 60, 12, 2)
		there(out, letters(0, 4, 12, "mn"))
	})
	tellsCode(t, "one more", c, event{Kind: impl.EvWrite, Text: alphabet[:free+1]}, impl.ErrFull)
	tellsCode(t, "MaxBytes", c, event{Kind: impl.EvWrite, Text: strings.Repeat("x", impl.MaxBytes)}, impl.ErrFull)
	tellsCode(t, "more than MaxBytes", c, event{Kind: impl.EvWrite, Text: strings.Repeat("x", impl.MaxBytes+1)}, impl.ErrSize)
	tellsCode(t, "all no time", lastTimes(), event{Kind: impl.EvWrite, Text: "xy"}, impl.ErrFull)
	c = ended()
	tellsCode(t, "closed", c, event{Kind: impl.EvWrite, Text: "x"}, impl.ErrState)
	tellsCode(t, "nothing, closed", c, event{Kind: impl.EvWrite}, impl.ErrState)
	tellsCode(t, "closed ahead of too many", c, event{Kind: impl.EvWrite, Text: alphabet[:impl.MaxBuf+1]}, impl.ErrState)
	tellsCode(t, "more than MaxBytes ahead of closed", c, event{Kind: impl.EvWrite, Text: strings.Repeat("x", impl.MaxBytes+1)}, impl.ErrSize)
}

// TestFillOnManyWays lets pieces fly each on the path it tells.
func TestFillOnManyWays(t *testing.T) {
	c := newConn(3, 4, 40, 40)
	turns(t, "on all", c, event{Kind: impl.EvWrite, Text: alphabet[:22]}, func(out *impl.ConnOut) {
		s := &out.Conn.Snd
		s.Text, s.Next = alphabet[:22], 22
		outBehind(&s.Lines[0], 0, 0, 4, 4)
		outBehind(&s.Lines[1], 0, 8, 4, 4)
		outBehind(&s.Lines[2], 0, 16, 4, 2)
		there(out, letters(0, 0, 0, "abcd"), letters(0, 1, 4, "efgh"), letters(1, 0, 8, "ijkl"), letters(1, 1, 12, "mnop"), letters(2, 0, 16, "qrst"), letters(2, 1, 20, "uv"))
	})
}

func TestEvClose(t *testing.T) {
	turns(t, "nothing written", newConn(2, 3, 6, 12), event{Kind: impl.EvClose}, func(out *impl.ConnOut) { out.Conn.Snd.Open = false })
	turns(t, "what is filled then tells the end", midway(), event{Kind: impl.EvClose, N: -1, Text: "x"}, func(out *impl.ConnOut) {
		out.Conn.Snd.Open, out.Conn.Snd.Next = false, 14
		outBehind(&out.Conn.Snd.Lines[0], 60, 12, 2)
		there(out, seg{Sub: 4, Data: 12, Text: "mn", End: 16})
	})
	tellsCode(t, "closed", ended(), event{Kind: impl.EvClose}, impl.ErrState)
}

func TestEvRead(t *testing.T) {
	c := midway()
	tellsCode(t, "N -1", c, event{Kind: impl.EvRead, N: -1}, impl.ErrForm)
	tellsCode(t, "N 0", c, event{Kind: impl.EvRead}, impl.ErrForm)
	turns(t, "one", c, event{Kind: impl.EvRead, N: 1}, func(out *impl.ConnOut) {
		r := &out.Conn.Rcv
		r.Read, r.Edge, r.Pieces[0], out.Text = 5, 15, impl.Piece{At: 5, Text: "f"}, "e"
		back(out, ack{Sub: 4, Data: 6, Edge: 15}, ack{Path: 1, Sub: 1, Data: 6, Edge: 15})
	})
	for _, n := range []int64{2, 3, 64, math.MaxInt64} {
		turns(t, "as many as there are, and more", c, event{Kind: impl.EvRead, N: n}, func(out *impl.ConnOut) {
			r := &out.Conn.Rcv
			r.Read, r.Edge, r.Pieces, out.Text = 6, 16, r.Pieces[1:], "ef"
			back(out, ack{Sub: 4, Data: 6, Edge: 16}, ack{Path: 1, Sub: 1, Data: 6, Edge: 16})
		})
	}
	half := connTurned(c, func(c *conn) { c.Rcv.Cap, c.Rcv.Pieces[0].Text = 19, "efghi"; c.Rcv.Pieces = c.Rcv.Pieces[:1] })
	turns(t, "half of Size", half, event{Kind: impl.EvRead, N: 5}, func(out *impl.ConnOut) {
		r := &out.Conn.Rcv
		r.Read, r.Size, r.Edge, r.Pieces, out.Text = 9, 19, 28, nil, "efghi"
		back(out, ack{Sub: 4, Data: 9, Edge: 28}, ack{Path: 1, Sub: 1, Data: 9, Edge: 28})
	})
	none := connTurned(c, func(c *conn) { c.Rcv.Pieces = c.Rcv.Pieces[1:] })
	turns(t, "nothing, and Edge stays", none, event{Kind: impl.EvRead, N: 2}, nothing)
	none.Rcv.Size = 11
	turns(t, "nothing, and Edge is another one", none, event{Kind: impl.EvRead, N: 2}, func(out *impl.ConnOut) {
		out.Conn.Rcv.Edge = 15
		back(out, ack{Sub: 4, Data: 4, Edge: 15}, ack{Path: 1, Sub: 1, Data: 4, Edge: 15})
	})
	c = lastTimes()
	turns(t, "something, and Edge stays at MaxTime", c, event{Kind: impl.EvRead, N: 2}, func(out *impl.ConnOut) {
		out.Conn.Rcv.Read, out.Conn.Rcv.Pieces, out.Text = most-6, nil, "z"
	})
}

func TestEvReadAtTheEnd(t *testing.T) {
	c := ended()
	turns(t, "one ahead of the end", c, event{Kind: impl.EvRead, N: 1}, func(out *impl.ConnOut) {
		r := &out.Conn.Rcv
		r.Read, r.Edge, r.Pieces, out.Text = 15, 21, []impl.Piece{{At: 15, Text: "p"}}, "o"
		back(out, ack{Sub: 9, Data: 16, Edge: 21})
	})
	c = turns(t, "to the end", c, event{Kind: impl.EvRead, N: 2}, func(out *impl.ConnOut) {
		r := &out.Conn.Rcv
		r.Read, r.Edge, r.Pieces, out.Text, out.Done = 16, 22, nil, "op", true
		back(out, ack{Sub: 9, Data: 16, Edge: 22})
	})
	turns(t, "again", c, event{Kind: impl.EvRead, N: 2}, func(out *impl.ConnOut) { out.Done = true })
	tellsCode(t, "Done is not told beside a code", c, event{Kind: impl.EvRead}, impl.ErrForm)
	c.Rcv.End = 17
	turns(t, "not the end", c, event{Kind: impl.EvRead, N: 2}, nothing)
	c.Rcv.End = -1
	turns(t, "no end known", c, event{Kind: impl.EvRead, N: 2}, nothing)
}

// TestNoSuchWayOrPlace is of each path and place that is none, There and Back.
func TestNoSuchWayOrPlace(t *testing.T) {
	for _, c := range []conn{newConn(1, 3, 6, 12), newConn(4, 3, 6, 12), midway(), crowded(), ended()} {
		for _, kind := range []int64{impl.EvTake, impl.EvDrop, impl.EvTwice, impl.EvBend} {
			for _, dir := range bothDirections {
				for _, path := range append([]int64{-1, int64(len(c.Net)), mostPaths}, farNumbers...) {
					tellsCode(t, "no such path", c, event{Kind: kind, Path: path, Back: dir, N: 1}, impl.ErrNone)
				}
				for path := range int64(len(c.Net)) {
					flying := int64(len(*listOf(c.Net, path, dir)))
					for _, at := range append([]int64{-1, flying, flying + 1, impl.MaxFly}, farNumbers...) {
						tellsCode(t, "no such place", c, event{Kind: kind, Path: path, Back: dir, At: at, N: 1}, impl.ErrNone)
					}
					for at := range flying {
						same(t, "such a place", doAsTold(t, "such a place", c, event{Kind: kind, Path: path, Back: dir, At: at, N: 1}).Code, impl.OK)
					}
				}
			}
		}
		for _, path := range append([]int64{-1, int64(len(c.Net)), mostPaths}, farNumbers...) {
			tellsCode(t, "no such path", c, event{Kind: impl.EvPut, Path: path, Text: "x"}, impl.ErrNone)
		}
	}
}

func TestEvDropTwiceBend(t *testing.T) {
	c := midway()
	turns(t, "dropped", c, event{Kind: impl.EvDrop, Path: 1}, func(out *impl.ConnOut) { out.Conn.Net[1].There = out.Conn.Net[1].There[1:] })
	turns(t, "dropped, Back", c, event{Kind: impl.EvDrop, Back: true, At: 1}, func(out *impl.ConnOut) { out.Conn.Net[0].Back = out.Conn.Net[0].Back[:1] })
	turns(t, "twice", c, event{Kind: impl.EvTwice, Path: 1}, func(out *impl.ConnOut) { there(out, letters(1, 1, 6, "gh")) })
	turns(t, "twice, Back", c, event{Kind: impl.EvTwice, Back: true}, func(out *impl.ConnOut) { back(out, ack{Sub: 4, Data: 6, Edge: 14}) })
	for _, n := range []int64{1, 2, 128, 254, 255} {
		turns(t, "bent", c, event{Kind: impl.EvBend, Path: 1, At: 1, N: n}, func(out *impl.ConnOut) {
			thing := &out.Conn.Net[1].There[1]
			*thing = turn(*thing, 0, byte(n))
		})
		bent := turns(t, "bent, Back", c, event{Kind: impl.EvBend, Back: true, N: n}, func(out *impl.ConnOut) {
			thing := &out.Conn.Net[0].Back[0]
			*thing = turn(*thing, 0, byte(n))
		})
		turns(t, "bent once more it is as it was", bent, event{Kind: impl.EvBend, Back: true, N: n}, func(out *impl.ConnOut) { out.Conn = c })
		turns(t, "what is bent is gone when it comes", bent, event{Kind: impl.EvTake, Back: true}, func(out *impl.ConnOut) { out.Conn.Net[0].Back = out.Conn.Net[0].Back[1:] })
	}
	for _, n := range append([]int64{-255, -1, 0, 256, 257, 512 + 1, 1 << 16}, farNumbers...) {
		tellsCode(t, "bent by no byte", c, event{Kind: impl.EvBend, Path: 1, N: n}, impl.ErrForm)
	}
	full := crowded()
	for path := range int64(mostPaths) {
		for _, dir := range bothDirections {
			turns(t, "twice where as many fly as may", full, event{Kind: impl.EvTwice, Path: path, Back: dir, At: 3}, nothing)
		}
	}
}

func TestEvPut(t *testing.T) {
	c := midway()
	for _, text := range []string{"x", "S", "A", "\x00", alphabet[:99], alphabet[:100]} {
		turns(t, "put", c, event{Kind: impl.EvPut, Path: 1, Text: text}, func(out *impl.ConnOut) { out.Conn.Net[1].There = append(out.Conn.Net[1].There, text) })
		turns(t, "put, Back", c, event{Kind: impl.EvPut, Path: 1, Back: true, Text: text}, func(out *impl.ConnOut) { out.Conn.Net[1].Back = append(out.Conn.Net[1].Back, text) })
		for _, dir := range bothDirections {
			turns(t, "put where as many fly as may", crowded(), event{Kind: impl.EvPut, Path: 2, Back: dir, Text: text}, nothing)
			putAndTaken(t, c, text, dir)
		}
	}
	for _, dir := range bothDirections {
		tellsCode(t, "nothing", c, event{Kind: impl.EvPut, Back: dir}, impl.ErrForm)
		tellsCode(t, "101 bytes", c, event{Kind: impl.EvPut, Back: dir, Text: alphabet[:101]}, impl.ErrForm)
		tellsCode(t, "MaxBytes", c, event{Kind: impl.EvPut, Back: dir, Text: strings.Repeat("x", impl.MaxBytes)}, impl.ErrForm)
		tellsCode(t, "more than MaxBytes", c, event{Kind: impl.EvPut, Back: dir, Text: strings.Repeat("x", impl.MaxBytes+1)}, impl.ErrSize)
		tellsCode(t, "nothing, on a way that is full", crowded(), event{Kind: impl.EvPut, Back: dir}, impl.ErrForm)
		tellsCode(t, "101 bytes, on a way that is full", crowded(), event{Kind: impl.EvPut, Back: dir, Text: alphabet[:101]}, impl.ErrForm)
	}
}

// putAndTaken puts what can not be read, or is not taken, and takes it: it is
// gone, and nothing else turned.
func putAndTaken(t *testing.T, c conn, bytes string, dir bool) {
	t.Helper()
	for path := range int64(len(c.Net)) {
		at := int64(len(*listOf(c.Net, path, dir)))
		put := impl.ConnDo(c, event{Kind: impl.EvPut, Path: path, Back: dir, Text: bytes})
		same(t, "put "+shown(bytes), put.Code, impl.OK)
		turns(t, "put, and taken", put.Conn, event{Kind: impl.EvTake, Path: path, Back: dir, At: at}, func(out *impl.ConnOut) { out.Conn = c })
	}
}

func TestTakenAndGone(t *testing.T) {
	for _, c := range []conn{midway(), lastTimes(), newConn(2, 3, 6, 12)} {
		piece, answer := pieceBytes(letters(0, c.Rcv.Froms[0].Want, c.Rcv.Read, "")), answerBytes(ack{Data: c.Snd.Base, Edge: c.Snd.Edge})
		putAndTaken(t, c, piece, true)
		putAndTaken(t, c, answer, false)
		for _, dir := range bothDirections {
			putAndTaken(t, c, piece[1:], dir)
			putAndTaken(t, c, piece+"x", dir)
			putAndTaken(t, c, turn(piece, 5, 1), dir)
			putAndTaken(t, c, answer[:len(answer)-1], dir)
			putAndTaken(t, c, turn(answer, 0, 'S'^'A'), dir)
			putAndTaken(t, c, sealed(""), dir)
			putAndTaken(t, c, sealed("S"), dir)
			putAndTaken(t, c, sealed(packed("S", int64(4), int64(0), int64(0), "", int64(-1))), dir)
			putAndTaken(t, c, sealed(packed("A", int64(0), int64(0), int64(0), int64(most+1))), dir)
		}
		for path := int64(2); path < mostPaths; path++ {
			putAndTaken(t, c, pieceBytes(letters(path, 0, c.Rcv.Read, "x")), false)
			putAndTaken(t, c, answerBytes(ack{Path: path, Data: c.Snd.Base, Edge: c.Snd.Edge}), true)
		}
		putAndTaken(t, c, answerBytes(ack{Data: c.Snd.Next + 1, Edge: c.Snd.Edge}), true)
		putAndTaken(t, c, answerBytes(ack{Path: 1, Data: most, Edge: c.Snd.Edge}), true)
	}
	last := connTurned(lastTimes(), func(c *conn) { c.Rcv.Froms[0].Want = most })
	putAndTaken(t, last, pieceBytes(letters(0, most, most-6, "a")), false)
	putAndTaken(t, last, pieceBytes(letters(1, most, most-6, "a")), false)
}

// TestTakenOnAnotherWay: what flew on one way, and tells of another one, is of
// that one, and so is its answer.
func TestTakenOnAnotherWay(t *testing.T) {
	c := impl.ConnDo(midway(), event{Kind: impl.EvPut, Path: 0, Text: pieceBytes(letters(1, 1, 6, "gh"))}).Conn
	c = turns(t, "a piece", c, event{Kind: impl.EvTake, Path: 0, At: 1}, func(out *impl.ConnOut) {
		out.Conn.Net[0].There = out.Conn.Net[0].There[:1]
		out.Conn.Rcv.Pieces, out.Conn.Rcv.Froms[1].Want = []impl.Piece{{At: 4, Text: "efghij"}}, 2
		back(out, ack{Path: 1, Sub: 2, Data: 10, Edge: 14})
	})
	c = impl.ConnDo(c, event{Kind: impl.EvPut, Path: 0, Back: true, Text: c.Net[1].Back[1]}).Conn
	turns(t, "an answer", c, event{Kind: impl.EvTake, Path: 0, Back: true, At: 2}, func(out *impl.ConnOut) {
		out.Conn.Net[0].Back = out.Conn.Net[0].Back[:2]
		s := &out.Conn.Snd
		s.Base, s.Text, s.Next = 10, "klmnop", 14
		s.Lines[0].Out = nil
		s.Lines[1].Clock, s.Lines[1].Most, s.Lines[1].Out = clock{Mean: 9, Var: 4, Rto: 25}, 3, s.Lines[1].Out[1:]
		outBehind(&s.Lines[0], 60, 12, 2)
		there(out, letters(0, 4, 12, "mn"))
	})
}

// TestTakenWhereManyFly: what is told where as many fly as may is lost, and
// all else turns as ever.
func TestTakenWhereManyFly(t *testing.T) {
	c := crowded()
	c = turns(t, "a piece, and its answer is lost", c, event{Kind: impl.EvTake, Path: 1, At: 3}, func(out *impl.ConnOut) {
		out.Conn.Net[1].There = slices.Delete(out.Conn.Net[1].There, 3, 4)
		out.Conn.Rcv.Pieces, out.Conn.Rcv.Froms[1].Late = []impl.Piece{{At: 10, Text: "abc"}, {At: 14, Text: "e"}}, []int64{3, 4, 5}
	})
	c = turns(t, "read, and each answer is lost", c, event{Kind: impl.EvRead, N: 2}, func(out *impl.ConnOut) {
		out.Conn.Rcv.Read, out.Conn.Rcv.Edge, out.Conn.Rcv.Pieces, out.Text = 12, 76, []impl.Piece{{At: 12, Text: "c"}, {At: 14, Text: "e"}}, "ab"
	})
	c.Net[2].Back = c.Net[2].Back[1:]
	turns(t, "read, and one answer flies", c, event{Kind: impl.EvRead, N: 1}, func(out *impl.ConnOut) {
		out.Conn.Rcv.Read, out.Conn.Rcv.Edge, out.Conn.Rcv.Pieces, out.Text = 13, 77, []impl.Piece{{At: 14, Text: "e"}}, "c"
		back(out, ack{Path: 2, Sub: 1, Data: 13, Edge: 77})
	})
	one := newConn(1, 1, 40, 40)
	one.Net = netOf(1, impl.MaxFly, impl.MaxFly)
	turns(t, "written, and lost", one, event{Kind: impl.EvWrite, Text: "ab"}, func(out *impl.ConnOut) {
		out.Conn.Snd.Text, out.Conn.Snd.Next = "ab", 2
		outBehind(&out.Conn.Snd.Lines[0], 0, 0, 1, 1)
	})
	one.Net = netOf(1, impl.MaxFly-1, impl.MaxFly)
	turns(t, "written, and one of two is lost", one, event{Kind: impl.EvWrite, Text: "ab"}, func(out *impl.ConnOut) {
		out.Conn.Snd.Text, out.Conn.Snd.Next = "ab", 2
		outBehind(&out.Conn.Snd.Lines[0], 0, 0, 1, 1)
		there(out, letters(0, 0, 0, "a"))
	})
}

func TestEvTick(t *testing.T) {
	c := midway()
	for _, n := range append([]int64{-2, -1, 0}, farNumbers...) {
		if n < 1 {
			tellsCode(t, "N below 1", c, event{Kind: impl.EvTick, N: n}, impl.ErrForm)
			continue
		}
		tellsCode(t, "far too late", c, event{Kind: impl.EvTick, N: n}, impl.ErrRange)
	}
	for n := int64(1); n < 40; n++ {
		doAsTold(t, "some time", c, event{Kind: impl.EvTick, N: n})
	}
	again := connTurned(c, func(c *conn) { c.Snd.Lines[1].Out[1].At = 52 })
	turns(t, "the last one is due, and room is filled", again, event{Kind: impl.EvTick, N: 1}, func(out *impl.ConnOut) {
		out.Conn.Now = 61
		s := &out.Conn.Snd
		s.Lines[0].Out[0].At, s.Lines[0].Out[0].Tries = 61, 2
		s.Lines[0].Clock.Rto, s.Lines[0].Most = 14, 1
		outBehind(&s.Lines[1], 61, 4, 2)
		for i := range 2 {
			s.Lines[1].Out[i].At, s.Lines[1].Out[i].Tries = 61, 2
		}
		s.Lines[1].Clock.Rto, s.Lines[1].Most = 16, 1
		there(out, letters(0, 2, 4, "ef"), letters(1, 3, 4, "ef"), letters(1, 1, 6, "gh"), letters(1, 2, 10, "kl"))
	})
	fresh := newConn(2, 3, 6, 12)
	turns(t, "nothing to send", fresh, event{Kind: impl.EvTick, N: 1}, func(out *impl.ConnOut) { out.Conn.Now = 1 })
	turns(t, "to MaxTime", fresh, event{Kind: impl.EvTick, N: most}, func(out *impl.ConnOut) { out.Conn.Now = most })
	tellsCode(t, "one more", fresh, event{Kind: impl.EvTick, N: most + 1}, impl.ErrRange)
	fresh.Now = 40
	turns(t, "to MaxTime, later", fresh, event{Kind: impl.EvTick, N: most - 40}, func(out *impl.ConnOut) { out.Conn.Now = most })
	tellsCode(t, "one more, later", fresh, event{Kind: impl.EvTick, N: most - 39}, impl.ErrRange)
	tellsCode(t, "at MaxTime", lastTimes(), event{Kind: impl.EvTick, N: 1}, impl.ErrRange)
	tellsCode(t, "at MaxTime, N 0", lastTimes(), event{Kind: impl.EvTick}, impl.ErrForm)
	shut := connTurned(fresh, func(c *conn) { c.Snd.Open = false })
	turns(t, "the end is told on each way", shut, event{Kind: impl.EvTick, N: 1}, func(out *impl.ConnOut) {
		out.Conn.Now = 41
		outBehind(&out.Conn.Snd.Lines[0], 41, 0, 0)
		outBehind(&out.Conn.Snd.Lines[1], 41, 0, 0)
		there(out, seg{}, seg{Path: 1})
	})
}

// TestTwoFaults: which one is told first.
func TestTwoFaults(t *testing.T) {
	long := strings.Repeat("x", impl.MaxBytes+1)
	c := midway()
	for _, two := range []struct {
		what string
		c    conn
		e    event
		code int64
	}{
		{"no kind, and too long", c, event{Text: long}, impl.ErrForm},
		{"bent by nothing on no path", c, event{Kind: impl.EvBend, Path: 2}, impl.ErrNone},
		{"bent by nothing at no place", c, event{Kind: impl.EvBend, At: 8}, impl.ErrNone},
		{"nothing put on no path", c, event{Kind: impl.EvPut, Path: -1}, impl.ErrNone},
		{"101 bytes put on no path", c, event{Kind: impl.EvPut, Path: 2, Text: alphabet[:101]}, impl.ErrNone},
		{"too many bytes put on no path", c, event{Kind: impl.EvPut, Path: 2, Text: long}, impl.ErrSize},
		{"taken of no path at no place", c, event{Kind: impl.EvTake, Path: 2, At: -1}, impl.ErrNone},
		{"too long to be no one's fault", c, event{Kind: impl.EvTake, Path: 2, At: -1, Text: long}, impl.ErrNone},
		{"a Text that is not asked for", c, event{Kind: impl.EvRead, Text: long}, impl.ErrForm},
		{"a tick with a Text", c, event{Kind: impl.EvTick, N: most, Text: long}, impl.ErrRange},
		{"more than fit in, and closed", ended(), event{Kind: impl.EvWrite, Text: alphabet[:199]}, impl.ErrState},
		{"too long, and full", crowded(), event{Kind: impl.EvWrite, Text: long}, impl.ErrSize},
		{"too long, and no time", lastTimes(), event{Kind: impl.EvWrite, Text: long}, impl.ErrSize},
	} {
		tellsCode(t, two.what, two.c, two.e, two.code)
		wrong := connTurned(two.c, func(c *conn) { c.Now = most + 1 })
		tellsCode(t, two.what+", not right", wrong, two.e, impl.ErrForm)
	}
}

// TestOtherFieldsAreNotAskedFor: each event turns on those fields alone that
// its kind names.
func TestOtherFieldsAreNotAskedFor(t *testing.T) {
	long := strings.Repeat("x", impl.MaxBytes+1)
	for _, c := range rightConns() {
		for _, x := range []struct{ one, other event }{
			{event{Kind: impl.EvWrite, Text: "ab"}, event{Kind: impl.EvWrite, Path: 9, Back: true, At: -1, N: -1, Text: "ab"}},
			{event{Kind: impl.EvRead, N: 2}, event{Kind: impl.EvRead, Path: -1, Back: true, At: -1, N: 2, Text: long}},
			{event{Kind: impl.EvClose}, event{Kind: impl.EvClose, Path: -1, Back: true, At: -1, N: -1, Text: long}},
			{event{Kind: impl.EvTake}, event{Kind: impl.EvTake, N: -1, Text: long}},
			{event{Kind: impl.EvDrop}, event{Kind: impl.EvDrop, N: -1, Text: long}},
			{event{Kind: impl.EvTwice}, event{Kind: impl.EvTwice, N: -1, Text: long}},
			{event{Kind: impl.EvBend, N: 7}, event{Kind: impl.EvBend, N: 7, Text: long}},
			{event{Kind: impl.EvTick, N: 9}, event{Kind: impl.EvTick, Path: -1, Back: true, At: -1, N: 9, Text: long}},
			{event{Kind: impl.EvPut, Text: "ab"}, event{Kind: impl.EvPut, At: -1, N: -1, Text: "ab"}},
		} {
			connIs(t, shown(x.other), impl.ConnDo(c, x.other), doAsTold(t, "as it is", c, x.one))
		}
	}
}
