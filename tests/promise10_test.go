package tests

import (
	"math"
	"slices"
	"testing"

	"loop.example/g00847/impl"
)

// The tests of promise 10: as long as one way carries what flies on it now and
// then, and something is read, all that was written is read, and that it is
// all is told, however the other ways are, and whatever came ahead. Here is
// what the document says of a round, of many, and of what is left; what is
// read in the end, and whose memory it is, each has a file of its own.

// roundTold is what the document says that Round tells, event by event.
func roundTold(c conn, path int64, n int64) impl.ConnOut {
	switch {
	case !hasConnForm(c) || n < 1:
		return connCode(impl.ErrForm)
	case !within(path, 0, int64(len(c.Net))-1):
		return connCode(impl.ErrNone)
	}
	out := doTold(c, event{Kind: impl.EvTick, N: impl.RtoMax})
	for out.Code == impl.OK && len(out.Conn.Net[path].There) > 0 {
		out = doTold(out.Conn, event{Kind: impl.EvTake, Path: path})
	}
	for out.Code == impl.OK && len(out.Conn.Net[path].Back) > 0 {
		out = doTold(out.Conn, event{Kind: impl.EvTake, Path: path, Back: true})
	}
	if out.Code != impl.OK {
		return out
	}
	return doTold(out.Conn, event{Kind: impl.EvRead, N: n})
}

// roundsTold is what the document says that Rounds tells, round by round.
func roundsTold(c conn, path int64, n int64, many int64) impl.ConnOut {
	if !hasConnForm(c) || n < 1 || !within(many, 0, 100) {
		return connCode(impl.ErrForm)
	}
	all := impl.ConnOut{Conn: connCopy(c)}
	for range many {
		one := roundTold(all.Conn, path, n)
		if one.Code != impl.OK {
			return connCode(one.Code)
		}
		all = impl.ConnOut{Conn: one.Conn, Text: all.Text + one.Text, Done: all.Done || one.Done}
	}
	return all
}

// leftTold counts, place by place, what was written, and not read.
func leftTold(c conn) int64 {
	if !hasConnForm(c) {
		return -1
	}
	count := int64(0)
	for place := c.Rcv.Read; place < behindText(c.Snd); place++ {
		count++
	}
	return count
}

// roundIs does it twice, so that something kept would show, and looks at the
// argument, too: it is not changed.
func roundIs(t *testing.T, what string, c conn, path int64, n int64, want impl.ConnOut) {
	t.Helper()
	before := connCopy(c)
	what += ": round " + shown([]int64{path, n})
	for range 2 {
		connIs(t, what, impl.Round(c, path, n), want)
	}
	same(t, what+" changed nothing", sameConn(c, before), true)
}

func roundsAre(t *testing.T, what string, c conn, path int64, n int64, many int64, want impl.ConnOut) {
	t.Helper()
	before := connCopy(c)
	what += ": rounds " + shown([]int64{path, n, many})
	for range 2 {
		connIs(t, what, impl.Rounds(c, path, n, many), want)
	}
	same(t, what+" changed nothing", sameConn(c, before), true)
}

// roundAsTold looks at the model, and at one round of Rounds.
func roundAsTold(t *testing.T, what string, c conn, path int64, n int64) impl.ConnOut {
	t.Helper()
	want := roundTold(c, path, n)
	roundIs(t, what, c, path, n, want)
	connIs(t, what+", one of many", impl.Rounds(c, path, n, 1), want)
	return want
}

func roundsAsTold(t *testing.T, what string, c conn, path int64, n int64, many int64) impl.ConnOut {
	t.Helper()
	want := roundsTold(c, path, n, many)
	roundsAre(t, what, c, path, n, many, want)
	return want
}

func leftIs(t *testing.T, what string, c conn, want int64) {
	t.Helper()
	before := connCopy(c)
	for range 2 {
		same(t, what+": left", impl.Left(c), want)
	}
	same(t, what+", by the model", leftTold(c), want)
	same(t, what+": left changed nothing", sameConn(c, before), true)
}

// roundTurns looks at the one case that is written by hand, and at the model.
func roundTurns(t *testing.T, what string, c conn, path int64, n int64, turn func(out *impl.ConnOut)) conn {
	t.Helper()
	want := impl.ConnOut{Conn: connCopy(c)}
	want.Conn.Now += impl.RtoMax
	turn(&want)
	roundIs(t, what, c, path, n, want)
	roundAsTold(t, what, c, path, n)
	return want.Conn
}

// tellsNothingElse is of both calls, of which the same code is told.
func tellsNothingElse(t *testing.T, what string, c conn, path int64, n int64, code int64) {
	t.Helper()
	roundIs(t, what, c, path, n, connCode(code))
	roundsAre(t, what, c, path, n, 1, connCode(code))
	roundsAre(t, what, c, path, n, 100, connCode(code))
	same(t, what+", by the model", roundTold(c, path, n).Code, code)
}

// written is a Conn of which a text was written, which is closed then.
func written(t *testing.T, c conn, text string) conn {
	t.Helper()
	out := impl.ConnAll(c, []event{{Kind: impl.EvWrite, Text: text}, {Kind: impl.EvClose}})
	same(t, "written", out.Code == impl.OK && !out.Conn.Snd.Open && out.Conn.Snd.Text == text, true)
	return out.Conn
}

// TestOneRoundAfterTheOther goes on, round by round, from nothing to all that
// was read, on one way.
func TestOneRoundAfterTheOther(t *testing.T) {
	c := newConn(1, 3, 6, 12)
	c = impl.ConnDo(c, event{Kind: impl.EvWrite, Text: "abcdefgh"}).Conn // "abc" and "def" fly
	leftIs(t, "written", c, 8)
	c = roundTurns(t, "both are told again, and come twice", c, 0, 4, func(out *impl.ConnOut) {
		out.Text = "abcd"
		out.Conn.Snd = snd{Base: 6, Text: "gh", Next: 6, Edge: 6, Open: true, Mss: 3, Lines: []line{{Clock: clock{Rto: 16}, Most: 1, Next: 2}}}
		out.Conn.Rcv = rcv{Read: 4, Pieces: []impl.Piece{{At: 4, Text: "ef"}}, Edge: 16, Size: 12, Cap: 12, End: -1, Froms: []from{{Want: 2}}}
		out.Conn.Net = net{{Back: []string{answerBytes(ack{Sub: 2, Data: 6, Edge: 16})}}}
	})
	leftIs(t, "four were read", c, 4)
	c = roundTurns(t, "it is asked whether there is room, and there is", c, 0, 9, func(out *impl.ConnOut) {
		out.Text = "ef"
		s := &out.Conn.Snd
		s.Next, s.Edge = 8, 16
		s.Lines[0].Next, s.Lines[0].Out = 4, []sent{{Sub: 3, Data: 6, Len: 2, At: 128, Tries: 1}}
		out.Conn.Rcv = rcv{Read: 6, Edge: 18, Size: 12, Cap: 12, End: -1, Froms: []from{{Want: 3}}}
		out.Conn.Net = net{{There: []string{pieceBytes(letters(0, 3, 6, "gh"))}, Back: []string{answerBytes(ack{Sub: 3, Data: 6, Edge: 18})}}}
	})
	leftIs(t, "what flies is not read", c, 2)
	c = roundTurns(t, "the rest comes, and whether it is all is not known", c, 0, 9, func(out *impl.ConnOut) {
		out.Text = "gh"
		out.Conn.Snd = snd{Base: 8, Next: 8, Edge: 18, Open: true, Mss: 3, Lines: []line{{Clock: clock{Rto: 32}, Most: 1, Next: 4}}}
		out.Conn.Rcv = rcv{Read: 8, Edge: 20, Size: 12, Cap: 12, End: -1, Froms: []from{{Want: 4}}}
		out.Conn.Net = net{{Back: []string{answerBytes(ack{Sub: 4, Data: 8, Edge: 20})}}}
	})
	leftIs(t, "all was read", c, 0)
	c = roundTurns(t, "nothing is left to send", c, 0, 1, func(out *impl.ConnOut) {
		out.Conn.Snd.Edge, out.Conn.Net = 20, make(net, 1)
	})
	c = impl.ConnDo(c, event{Kind: impl.EvClose}).Conn
	c = roundTurns(t, "the end comes", c, 0, 1, func(out *impl.ConnOut) {
		out.Done = true
		out.Conn.Snd.Lines[0] = line{Clock: clock{Rto: 4}, Most: 2, Next: 5}
		out.Conn.Rcv.End, out.Conn.Rcv.Froms[0].Want = 8, 5
	})
	roundTurns(t, "and comes again", c, 0, 1, func(out *impl.ConnOut) {
		out.Done = true
		out.Conn.Snd.Lines[0].Most, out.Conn.Snd.Lines[0].Next, out.Conn.Rcv.Froms[0].Want = 3, 6, 6
	})
}

// TestOneRoundOfTwoWays: of the first way nothing comes, and so what is waited
// for is told on the other one.
func TestOneRoundOfTwoWays(t *testing.T) {
	c := written(t, newConn(2, 3, 6, 12), "abcdefgh") // "abc" and "def" fly on the first way
	roundTurns(t, "on the other one", c, 1, 4, func(out *impl.ConnOut) {
		out.Text = "abc"
		out.Conn.Snd = snd{Base: 3, Text: "defgh", Next: 6, Edge: 6, Mss: 3, Lines: []line{
			{Clock: clock{Rto: 16}, Most: 1, Next: 2, Out: []sent{{Sub: 1, Data: 3, Len: 3, At: 64, Tries: 2}}},
			{Clock: clock{Rto: 4}, Most: 3, Next: 1},
		}}
		out.Conn.Rcv = rcv{Read: 3, Edge: 15, Size: 12, Cap: 12, End: 8, Froms: []from{{}, {Want: 1}}}
		there(out, seg{Sub: 0, Data: 0, Text: "abc", End: 8}, seg{Sub: 1, Data: 3, Text: "def", End: 8})
		back(out, ack{Path: 0, Data: 3, Edge: 15}, ack{Path: 1, Sub: 1, Data: 3, Edge: 15})
	})
}

// TestRoundTakesTheFirst: what flies comes in its order, all that flies There
// ahead of all that flies Back.
func TestRoundTakesTheFirst(t *testing.T) {
	c := newConn(2, 4, 9, 9)
	for _, s := range []seg{letters(0, 8, 0, "abc"), letters(0, 0, 0, "ABCDE"), {Sub: 1, Data: 5, Text: "f", End: 7}, {Sub: 2, Data: 7, End: 8}} {
		c.Net[0].There = append(c.Net[0].There, pieceBytes(s))
	}
	c.Net[1] = impl.Way{There: []string{pieceBytes(letters(1, 0, 6, "G"))}, Back: []string{answerBytes(ack{Path: 1, Edge: 8})}}
	out := roundAsTold(t, "in its order", c, 0, 9)
	same(t, "text", out.Text, "abcDEf")
	same(t, "the first End that is told", out.Conn.Rcv.End, 7)
	same(t, "each of them came", slices.Equal(out.Conn.Rcv.Froms[0].Late, []int64{8}) && out.Conn.Rcv.Froms[0].Want == 3, true)
	same(t, "the other way is as it was", slices.Equal(out.Conn.Net[1].There, c.Net[1].There) && out.Conn.Net[1].Back[0] == c.Net[1].Back[0], true)
	same(t, "all that was answered came back, but what is told of the read", slices.Equal(out.Conn.Net[0].Back, []string{answerBytes(ack{Sub: 3, Data: 6, Edge: 15})}), true)
}

// TestRoundLeavesOtherWays: on the ways beside the one, nothing is taken in
// either direction.
func TestRoundLeavesOtherWays(t *testing.T) {
	for path := range int64(mostPaths) {
		c := newConn(mostPaths, 4, 9, 9)
		c.Net = netOf(mostPaths, impl.MaxFly, impl.MaxFly)
		roundTurns(t, "full ways", c, path, 1, func(out *impl.ConnOut) { out.Conn.Net[path] = impl.Way{} })
	}
}

// TestRoundAsTold looks at rounds one behind the other on each path.
func TestRoundAsTold(t *testing.T) {
	for i, c := range append(rightConns(), written(t, newConn(2, 3, 6, 12), "abcdefgh"), written(t, newConn(4, 1, 1, 64), "")) {
		what := "right " + shown(i)
		for path := int64(-1); path <= int64(len(c.Net)); path++ {
			for _, n := range append([]int64{-1, 0, 1, 2, 5, 64}, farNumbers...) {
				out := roundAsTold(t, what, c, path, n)
				for range 3 {
					if out.Code != impl.OK {
						break
					}
					same(t, what+" stays right", impl.ConnRight(out.Conn) && hasConnForm(out.Conn), true)
					out = roundAsTold(t, what+", and then", out.Conn, path, n)
				}
			}
		}
	}
}

// TestRoundWrongInOneField is of those that are not right, most of them in one
// field of Snd, Rcv, Net or Now alone.
func TestRoundWrongInOneField(t *testing.T) {
	wrong := 0
	for _, c := range []conn{midway(), ended(), lastTimes()} {
		for _, x := range connsWithOneFieldTurned(c) {
			leftIs(t, "one field turned", x, leftTold(x))
			if hasConnForm(x) {
				roundAsTold(t, "one field turned", x, 0, 3)
				continue
			}
			wrong++
			connIs(t, "one field turned", impl.Round(x, 0, 3), connCode(impl.ErrForm))
			connIs(t, "one field turned", impl.Rounds(x, 0, 3, 2), connCode(impl.ErrForm))
			connIs(t, "one field turned, no round", impl.Rounds(x, 0, 3, 0), connCode(impl.ErrForm))
		}
	}
	if wrong < 500 {
		t.Errorf("only %d of them are not right", wrong)
	}
}

func TestRoundPaths(t *testing.T) {
	for _, c := range []conn{newConn(1, 3, 6, 12), midway(), newConn(3, 1, 1, 1), crowded()} {
		last := int64(len(c.Net)) - 1
		for _, path := range append([]int64{-2, -1, last + 1, last + 2, mostPaths, most}, farNumbers...) {
			tellsNothingElse(t, "no such path", c, path, 1, impl.ErrNone)
			roundsAre(t, "no round on no such path", c, path, 1, 0, impl.ConnOut{Conn: c})
		}
		for path := range last + 1 {
			same(t, "each path", roundAsTold(t, "each path", c, path, 1).Code, impl.OK)
		}
	}
}

func TestRoundNumbers(t *testing.T) {
	c := midway()
	for _, n := range []int64{math.MinInt64, math.MinInt64 + 1, -1 << 32, -2, -1, 0} {
		tellsNothingElse(t, "n below 1", c, 0, n, impl.ErrForm)
		roundsAre(t, "n below 1, no round", c, 0, n, 0, connCode(impl.ErrForm))
	}
	for _, n := range []int64{1, 2, 3, 5, 7, 8, 9, 64, 1 << 32, math.MaxInt64 - 1, math.MaxInt64} {
		// "ij" is there, "gh" and "kl" fly on the second way, on which "ef" is told, too.
		same(t, "as many as one wants", roundAsTold(t, "n", c, 1, n).Text, "efghijkl"[:min(n, 8)])
	}
}

func TestRoundsMany(t *testing.T) {
	for _, c := range []conn{newConn(1, 3, 6, 12), written(t, newConn(2, 3, 6, 12), "abcdefgh"), midway(), ended()} {
		for _, many := range append([]int64{-2, -1, 101, 102, impl.MaxList, 256, 356, most}, farNumbers...) {
			roundsAre(t, "so many are refused", c, 0, 1, many, connCode(impl.ErrForm))
			same(t, "by the model", roundsTold(c, 0, 1, many).Code, impl.ErrForm)
		}
		roundsAre(t, "none", c, 0, 1, 0, impl.ConnOut{Conn: c})
		for _, many := range []int64{0, 1, 2, 3, 10, 99, 100} {
			out := roundsAsTold(t, "so many", c, 0, 1, many)
			same(t, "so many", out.Code, impl.OK)
			same(t, "so many ticks", out.Conn.Now, c.Now+many*impl.RtoMax)
		}
	}
}

// TestRoundFaultsInOrder: which one of two is told first.
func TestRoundFaultsInOrder(t *testing.T) {
	c := midway()
	late := connTurned(c, func(c *conn) { c.Now = most })
	wrong := map[string]conn{
		"the zero one":         {},
		"Snd is not right":     connTurned(c, func(c *conn) { c.Snd.Mss = 0 }),
		"Rcv is not right":     connTurned(c, func(c *conn) { c.Rcv.Size = 0 }),
		"Net is not right":     connTurned(c, func(c *conn) { c.Net[1].Back[0] = "" }),
		"Now is no time":       connTurned(c, func(c *conn) { c.Now = most + 1 }),
		"Now is ahead of all":  connTurned(c, func(c *conn) { c.Now = 59 }),
		"a Way is missing":     connTurned(c, func(c *conn) { c.Net = c.Net[:1] }),
		"Edge is behind Edge":  connTurned(c, func(c *conn) { c.Snd.Edge = 15 }),
		"Base is behind bytes": connTurned(c, func(c *conn) { c.Rcv.Pieces = nil; c.Snd = baseAt(6) }),
	}
	for what, x := range wrong {
		for _, path := range []int64{-1, 0, 1, 2} {
			for _, n := range []int64{0, 1} {
				tellsNothingElse(t, what, x, path, n, impl.ErrForm)
				roundsAre(t, what+", no round", x, path, n, 0, connCode(impl.ErrForm))
				roundsAre(t, what+", too many", x, path, n, 101, connCode(impl.ErrForm))
			}
		}
		leftIs(t, what, x, -1)
	}
	tellsNothingElse(t, "n below 1, and no such path", c, 2, 0, impl.ErrForm)
	tellsNothingElse(t, "n below 1, and too late", late, 0, 0, impl.ErrForm)
	tellsNothingElse(t, "no such path, and too late", late, 2, 1, impl.ErrNone)
	tellsNothingElse(t, "too late", late, 1, 1, impl.ErrRange)
	for _, many := range []int64{-1, 101} {
		roundsAre(t, "too many, and no such path", c, 2, 1, many, connCode(impl.ErrForm))
		roundsAre(t, "too many, and too late", late, 0, 1, many, connCode(impl.ErrForm))
		roundsAre(t, "too many, and n below 1", c, 0, 0, many, connCode(impl.ErrForm))
	}
}

// TestRoundsUntilMaxTime: a round more would be no time, the first one, or one
// behind others, beside which nothing of these is told.
func TestRoundsUntilMaxTime(t *testing.T) {
	start := written(t, newConn(1, 3, 64, 64), "abcdefgh")
	for _, rounds := range []int64{0, 1, 2, 3, 99, 100} {
		for more := int64(-1); more <= 1; more++ {
			c := connTurned(start, func(c *conn) { c.Now = most - rounds*impl.RtoMax + more })
			fits := rounds // as many as still come
			if more > 0 {
				fits--
			}
			if c.Now > most {
				tellsNothingElse(t, "no time", c, 0, 1, impl.ErrForm)
				continue
			}
			out := roundsAsTold(t, "as many as fit in", c, 0, 1, fits)
			same(t, "as many as fit in", out.Code, impl.OK)
			same(t, "then", out.Conn.Now, c.Now+fits*impl.RtoMax)
			same(t, "so much was read", out.Text, "abcdefgh"[:min(fits, 8)])
			roundIs(t, "one more", out.Conn, 0, 1, connCode(impl.ErrRange))
			if fits < 100 {
				roundsAre(t, "one more", c, 0, 1, fits+1, connCode(impl.ErrRange))
				roundsAre(t, "as many as may be", c, 0, 1, 100, connCode(impl.ErrRange))
			}
		}
	}
}

// TestRoundsOfAllThatWasRead: all is read, the end is told, and where no line
// has a number left, nothing but the time goes on.
func TestRoundsOfAllThatWasRead(t *testing.T) {
	used := line{Clock: clock{Rto: 8}, Most: 2, Next: most}
	c := conn{
		Snd: snd{Base: 16, Next: 16, Edge: 20, Mss: 4, Lines: []line{used, used}},
		Rcv: rcv{Read: 16, Edge: 20, Size: 4, Cap: 4, End: 16, Froms: []from{{Want: most}, {Want: most}}},
		Net: make(net, 2),
		Now: 100,
	}
	leftIs(t, "all was read", c, 0)
	for path := range int64(2) {
		roundTurns(t, "all was read", c, path, 5, func(out *impl.ConnOut) { out.Done = true })
		for _, many := range []int64{0, 1, 2, 100} {
			want := impl.ConnOut{Conn: connCopy(c), Done: many > 0}
			want.Conn.Now += many * impl.RtoMax
			roundsAre(t, "all was read", c, path, 5, many, want)
		}
	}
	last := connTurned(c, func(c *conn) { c.Snd.Lines[1].Next, c.Rcv.Froms[1].Want = most-1, most-1 })
	last = roundTurns(t, "the last number", last, 1, 5, func(out *impl.ConnOut) {
		out.Done = true
		out.Conn.Snd.Lines[1] = line{Clock: clock{Rto: 4}, Most: 3, Next: most}
		out.Conn.Rcv.Froms[1].Want = most
	})
	roundTurns(t, "and none behind it", last, 1, 5, func(out *impl.ConnOut) { out.Done = true })
	// What is left is not laid on such a line, and not read, however often.
	left := connTurned(c, func(c *conn) { c.Snd.Text = "a"; c.Rcv.End = -1 })
	leftIs(t, "one byte", left, 1)
	want := impl.ConnOut{Conn: connCopy(left)}
	want.Conn.Now += 100 * impl.RtoMax
	roundsAre(t, "one byte", left, 0, 5, 100, want)
}

func TestLeft(t *testing.T) {
	c := newConn(2, 3, 6, 12)
	leftIs(t, "nothing", c, 0)
	leftIs(t, "nothing, closed", written(t, c, ""), 0)
	leftIs(t, "as much as may wait", written(t, c, alphabet[:impl.MaxBuf]), impl.MaxBuf)
	c = impl.ConnDo(c, event{Kind: impl.EvWrite, Text: "abcdefgh"}).Conn
	leftIs(t, "what flies, and what is not sent", c, 8)
	c = impl.ConnDo(c, event{Kind: impl.EvTake, At: 1}).Conn
	leftIs(t, "what waits ahead of a gap", c, 8)
	c = impl.ConnDo(c, event{Kind: impl.EvRead, N: 9}).Conn
	leftIs(t, "nothing could be read", c, 8)
	c = impl.ConnDo(c, event{Kind: impl.EvTake}).Conn
	leftIs(t, "what can be read", c, 8)
	c = impl.ConnDo(c, event{Kind: impl.EvRead, N: 4}).Conn
	leftIs(t, "four were read", c, 4)
	c = impl.ConnAll(c, []event{{Kind: impl.EvTake, Back: true}, {Kind: impl.EvTake, Back: true}}).Conn
	same(t, "six are known to have come", c.Snd.Base, 6)
	leftIs(t, "six are known to have come", c, 4)
	c = impl.ConnDo(c, event{Kind: impl.EvRead, N: 9}).Conn
	leftIs(t, "six were read", c, 2)
	c = impl.Rounds(c, 0, 9, 9).Conn
	leftIs(t, "all was read", c, 0)
	for i, want := range []int64{0, 0, 0, 12, impl.MaxBuf, 2, 6, 3} {
		leftIs(t, "right "+shown(i), rightConns()[i], want)
	}
}

// TestLeftWhereMoreWasRead: a count of bytes is not below 0, and -1 is told of
// one that is not right alone.
func TestLeftWhereMoreWasRead(t *testing.T) {
	c := newConn(1, 3, 6, 12)
	for read := range int64(5) {
		c.Rcv.Read, c.Rcv.Edge = read, 6+read
		for size := range 8 {
			c.Snd.Text = alphabet[:size]
			leftIs(t, "read so far", c, max(int64(size)-read, 0))
		}
	}
}

// TestRoundOfForged: what was never sent may leave a Conn that is not right,
// with which a round does not go on for ever.
func TestRoundOfForged(t *testing.T) {
	c := midway()
	for _, forgedAck := range []ack{{Sub: 4, Data: 12, Edge: 14}, {Sub: 4, Data: 6, Edge: 15}, {Path: 1, Sub: 4, Data: 9, Edge: most}} {
		for at := range 3 {
			x := connTurned(c, func(c *conn) {
				c.Net[0].Back = slices.Insert(c.Net[0].Back, at, answerBytes(forgedAck))
			})
			tellsNothingElse(t, "forged", x, 0, 9, impl.ErrForm)
			same(t, "not on this way", roundAsTold(t, "forged", x, 1, 9).Code, impl.OK)
		}
	}
}
