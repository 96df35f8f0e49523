package tests

import (
	"math/rand"
	"slices"
	"testing"

	"loop.example/g00847/impl"
)

// The tests of promise 10, as far as it tells of what is read in the end.

// round lets one happen, and looks at all that is promised.
func (x *exchange) round(t *testing.T, path int64, n int64) {
	t.Helper()
	out := impl.Round(x.conn, path, n)
	same(t, "code of a round", out.Code, impl.OK)
	x.reads(t, out)
	x.bothStayRight(t, out.Conn)
	x.allOfTheStream(t, out.Conn)
	same(t, "as far as one wants", int64(len(out.Text)) <= n, true)
	same(t, "a round is so long", out.Conn.Now, x.conn.Now+impl.RtoMax)
	x.conn = out.Conn
	x.leftToRead(t)
}

func (x *exchange) leftToRead(t *testing.T) {
	t.Helper()
	same(t, "left", impl.Left(x.conn), int64(len(x.stream)-len(x.got)))
}

// copied goes on for itself from here.
func (x *exchange) copied() *exchange {
	other := *x
	other.conn, other.flew = connCopy(x.conn), slices.Clone(x.flew)
	return &other
}

// close is for one that may be closed already.
func (x *exchange) close(t *testing.T) {
	t.Helper()
	if !x.closed {
		x.do(t, event{Kind: impl.EvClose})
	}
}

// manyRounds is more than are ever needed: of one byte in each piece, and
// that on another way first, it takes two for each byte.
func (x *exchange) manyRounds() int {
	return 3*(len(x.stream)-len(x.got)) + 40
}

// comesToItsEnd does rounds on paths, in turn, until it is told that all was
// read, and a few more.
func (x *exchange) comesToItsEnd(t *testing.T, what string, n int64, paths ...int64) {
	t.Helper()
	limit := x.manyRounds() * len(paths)
	for i := 0; !x.done; i++ {
		same(t, what+": it comes to its end", i < limit, true)
		same(t, what+": stuck", impl.Stuck(x.conn), false)
		x.round(t, paths[i%len(paths)], n)
	}
	same(t, what+": all was read", x.got, x.stream)
	for _, path := range paths {
		x.round(t, path, n)
		same(t, what+": and it stays so", x.got == x.stream && impl.Left(x.conn) == 0, true)
	}
}

// inOneCall does the same by Rounds, as many at once as may be.
func (x *exchange) inOneCall(t *testing.T, what string, n int64, path int64) {
	t.Helper()
	got, c, done := x.got, x.conn, false
	for calls := 0; !done; calls++ {
		same(t, what+": it comes to its end", calls < 1+x.manyRounds()/100, true)
		out := impl.Rounds(c, path, n, 100)
		same(t, what+": code", out.Code, impl.OK)
		got, c, done = got+out.Text, out.Conn, out.Done
	}
	same(t, what+": all was read", got, x.stream)
	same(t, what+": left", impl.Left(c), 0)
}

// aheads are what may have become of what flew ahead, on a path in one
// direction.
var aheads = map[string]carrier{
	"nothing came": func(*testing.T, *exchange, *rand.Rand, int64, bool) {},
	"all lost":     allLost,
	"many lost":    manyLost,
	"each twice":   eachTwice,
	"many bent":    manyBent,
	"turned round": turnedRound,
	"told again":   toldAgain,
	"full":         fullOfBent,
}

func allLost(t *testing.T, x *exchange, _ *rand.Rand, path int64, back bool) {
	t.Helper()
	for x.flying(path, back) > 0 {
		x.do(t, event{Kind: impl.EvDrop, Path: path, Back: back})
	}
}

// fullOfBent doubles what flies, until there is place for nothing more, and
// bends all of it.
func fullOfBent(t *testing.T, x *exchange, _ *rand.Rand, path int64, back bool) {
	t.Helper()
	for flying := x.flying(path, back); 0 < flying && flying < impl.MaxFly; flying++ {
		x.do(t, event{Kind: impl.EvTwice, Path: path, Back: back})
	}
	for at := range x.flying(path, back) {
		x.do(t, event{Kind: impl.EvBend, Path: path, Back: back, At: at, N: 1 + at})
	}
}

// writeAndClose writes a text, and closes, with something that comes ahead.
func writeAndClose(t *testing.T, x *exchange, random *rand.Rand, text string, ahead carrier) {
	t.Helper()
	x.do(t, event{Kind: impl.EvWrite, Text: text[:len(text)/2]})
	for range 3 {
		x.do(t, event{Kind: impl.EvTick, N: 1 + random.Int63n(impl.RtoMax)})
		for path := range x.conn.Net {
			ahead(t, x, random, int64(path), false)
			ahead(t, x, random, int64(path), true)
		}
	}
	x.do(t, event{Kind: impl.EvWrite, Text: text[len(text)/2:]})
	x.do(t, event{Kind: impl.EvClose})
	x.leftToRead(t)
}

// TestAllIsReadOnOneWay has texts and rooms of all sizes, and one way of one,
// two and four that carries; on the others all that flies is lost, as nobody
// takes it.
func TestAllIsReadOnOneWay(t *testing.T) {
	random := rand.New(rand.NewSource(30))
	for _, paths := range []int64{1, 2, 4} {
		for _, size := range []int{0, 1, 7, impl.MaxBuf} {
			for _, mss := range []int64{1, impl.MaxSeg} {
				for _, room := range [][2]int64{{1, 1}, {64, 64}, {1, 64}} {
					for _, n := range []int64{1, 1000} {
						x := newExchange(paths, mss, room[0], room[1])
						what := shown([]int64{paths, int64(size), mss, room[0], room[1], n})
						writeAndClose(t, x, random, randomText(random, size), aheads["nothing came"])
						for _, path := range []int64{0, paths - 1} {
							x.copied().comesToItsEnd(t, what, n, path)
							x.inOneCall(t, what, n, path)
						}
					}
				}
			}
		}
	}
}

// TestAllIsReadWhateverCameAhead has each kind of what came ahead, and each
// way of four that carries then.
func TestAllIsReadWhateverCameAhead(t *testing.T) {
	for what, ahead := range aheads {
		for _, paths := range []int64{1, 2, 4} {
			for _, sizes := range [][3]int64{{16, 64, 64}, {5, 7, 30}, {1, 1, 1}} {
				random := rand.New(rand.NewSource(31 + paths))
				x := newExchange(paths, sizes[0], sizes[1], sizes[2])
				writeAndClose(t, x, random, randomText(random, 100), ahead)
				for path := range paths {
					x.copied().comesToItsEnd(t, what, 1+random.Int63n(20), path)
				}
				x.comesToItsEnd(t, what+", on each way in turn", 9, []int64{0, 1, 2, 3}[:paths]...)
			}
		}
	}
}

// TestAllIsReadHoweverTheOthersAre lets the other ways go on doing what they
// do, between rounds on the one that carries.
func TestAllIsReadHoweverTheOthersAre(t *testing.T) {
	for what, other := range aheads {
		for _, paths := range []int64{2, 4} {
			for path := range paths {
				random := rand.New(rand.NewSource(35 + path))
				x := newExchange(paths, 1+random.Int63n(impl.MaxSeg), 20, 40)
				x.do(t, event{Kind: impl.EvWrite, Text: randomText(random, impl.MaxBuf)})
				x.do(t, event{Kind: impl.EvClose})
				for limit := x.manyRounds(); !x.done; limit-- {
					same(t, what+": it comes to its end", limit > 0, true)
					for beside := range paths {
						if beside != path {
							other(t, x, random, beside, false)
							other(t, x, random, beside, true)
						}
					}
					x.round(t, path, 1+random.Int63n(30))
				}
				same(t, what+": all was read", x.got, x.stream)
			}
		}
	}
}

// TestAllIsReadWhereNoneCanBeRead: ways that are full of what was never sent,
// which is gone when it is taken.
func TestAllIsReadWhereNoneCanBeRead(t *testing.T) {
	for _, paths := range []int64{1, 2, 4} {
		for _, text := range []string{"", "abc", alphabet[:impl.MaxBuf]} {
			for _, n := range []int64{1, 64} {
				x := newExchange(paths, 3, 9, 20)
				x.do(t, event{Kind: impl.EvWrite, Text: text})
				x.conn.Net = netOf(int(paths), impl.MaxFly, impl.MaxFly)
				x.do(t, event{Kind: impl.EvClose})
				for path := range paths {
					x.copied().comesToItsEnd(t, "full ways", n, path)
				}
			}
		}
	}
}

// TestNotAllUntilItIsClosed: all that was written is read, which is not told
// to be all until that is known.
func TestNotAllUntilItIsClosed(t *testing.T) {
	for _, paths := range []int64{1, 2, 4} {
		for _, text := range []string{"", "abcde", alphabet[:impl.MaxBuf]} {
			for path := range paths {
				x := newExchange(paths, 4, 3, 40)
				x.do(t, event{Kind: impl.EvWrite, Text: text})
				for range x.manyRounds() {
					x.round(t, path, 64)
				}
				same(t, "all was read", x.got, text)
				same(t, "and more may come", x.done, false)
				x.writeUpTo(t, text+"and more") // and closes
				x.comesToItsEnd(t, "closed", 64, path)
			}
		}
	}
}

// TestAllIsReadWhateverComes lets anything happen, closes, and then lets each
// way alone, and all in turn, carry the rest.
func TestAllIsReadWhateverComes(t *testing.T) {
	random := rand.New(rand.NewSource(36))
	read, left, inTurn := 0, 0, []int64{0, 1, 2, 3}
	for round := range 80 {
		mostSize := 1 + random.Int63n(mostCap)
		paths := int64(1 + round%mostPaths)
		x := newExchange(paths, 1+random.Int63n(impl.MaxSeg), 1+random.Int63n(mostSize), mostSize)
		for range 100 + random.Intn(200) {
			x.do(t, randomEvent(random, x))
			x.leftToRead(t)
		}
		x.close(t)
		read, left = read+len(x.got), left+len(x.stream)-len(x.got)
		for path := range paths {
			n := 1 + random.Int63n(30)
			x.copied().comesToItsEnd(t, "one way", n, path)
			x.inOneCall(t, "one way", n, path)
		}
		x.comesToItsEnd(t, "each way in turn", 1+random.Int63n(30), inTurn[:paths]...)
	}
	if read < 2000 || left < 2000 {
		t.Errorf("only %d bytes were read ahead, and %d were left", read, left)
	}
}

// TestAllIsReadNowAndThen: a way carries what flies on it but seldom, and
// anything happens between.
func TestAllIsReadNowAndThen(t *testing.T) {
	random := rand.New(rand.NewSource(37))
	for paths := int64(1); paths <= mostPaths; paths++ {
		for path := range paths {
			x := newExchange(paths, 1+random.Int63n(impl.MaxSeg), 5, 50)
			text := randomText(random, 600)
			for limit := 2000; !x.done; limit-- {
				same(t, "it comes to its end", limit > 0, true)
				x.writeUpTo(t, text)
				for range random.Intn(12) {
					if e := randomEvent(random, x); e.Kind != impl.EvWrite && e.Kind != impl.EvClose {
						x.do(t, e)
					}
				}
				x.round(t, path, 1+random.Int63n(30))
			}
			same(t, "all was read", x.got, text)
		}
	}
}

// TestRoundsInParts: so many in one call, in two, and one by one.
func TestRoundsInParts(t *testing.T) {
	random := rand.New(rand.NewSource(38))
	for round := range 40 {
		x := newExchange(int64(1+round%mostPaths), 1+random.Int63n(8), 1+random.Int63n(9), 9)
		for range 60 {
			x.do(t, randomEvent(random, x))
		}
		path, n := random.Int63n(int64(len(x.conn.Net))), 1+random.Int63n(9)
		const many = 14
		want := roundsAsTold(t, "in one call", x.conn, path, n, many)
		same(t, "code", want.Code, impl.OK)
		for first := range int64(many + 1) {
			one := impl.Rounds(x.conn, path, n, first)
			two := impl.Rounds(one.Conn, path, n, many-first)
			same(t, "codes", one.Code == impl.OK && two.Code == impl.OK, true)
			connIs(t, "in two", impl.ConnOut{Conn: two.Conn, Text: one.Text + two.Text, Done: one.Done || two.Done}, want)
		}
		all := impl.ConnOut{Conn: x.conn}
		for range many {
			one := impl.Round(all.Conn, path, n)
			all = impl.ConnOut{Conn: one.Conn, Text: all.Text + one.Text, Done: all.Done || one.Done, Code: one.Code}
		}
		connIs(t, "one by one", all, want)
	}
}
