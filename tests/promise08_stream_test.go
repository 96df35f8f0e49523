package tests

import (
	"math/rand"
	"slices"
	"testing"

	"loop.example/g00847/impl"
)

// The tests of promise 8, as far as it tells of what comes of many events.

// exchange is both ends at one time, and what is known of them without the
// program.
type exchange struct {
	conn   conn
	stream string
	got    string
	closed bool
	done   bool
	flew   []string // the latest that were sent, which may be put once more
}

func newExchange(paths int64, mss int64, size int64, mostSize int64) *exchange {
	return &exchange{conn: newConn(paths, mss, size, mostSize)}
}

// do lets an event happen, and looks at all that is promised.
func (x *exchange) do(t *testing.T, e event) impl.ConnOut {
	t.Helper()
	out := impl.ConnDo(x.conn, e)
	connIs(t, shown(e), out, doTold(x.conn, e))
	if out.Code != impl.OK {
		return out
	}
	switch e.Kind {
	case impl.EvWrite:
		x.stream += e.Text
	case impl.EvClose:
		x.closed = true
	case impl.EvRead:
		x.reads(t, out)
	default:
		same(t, "told by a read alone", out.Text == "" && !out.Done, true)
	}
	x.bothStayRight(t, out.Conn)
	x.allOfTheStream(t, out.Conn)
	x.conn = out.Conn
	return out
}

func (x *exchange) reads(t *testing.T, out impl.ConnOut) {
	t.Helper()
	x.got += out.Text
	same(t, "in its order", x.got, x.stream[:len(x.got)])
	same(t, "Read", out.Conn.Rcv.Read, int64(len(x.got)))
	same(t, "Done", out.Done, x.closed && x.got == x.stream && out.Conn.Rcv.End != -1)
	x.done = x.done || out.Done
}

func (x *exchange) bothStayRight(t *testing.T, after conn) {
	t.Helper()
	same(t, "right", impl.ConnRight(after) && impl.SndRight(after.Snd) && impl.RcvRight(after.Rcv) && impl.NetRight(after.Net), true)
	same(t, "right, by the model", hasConnForm(after), true)
	held, r := impl.RcvHeld(after.Rcv), after.Rcv
	same(t, "never more kept than there is room", held <= r.Size && held <= r.Edge-r.Read && r.Size <= r.Cap, true)
	same(t, "nothing goes back", after.Now >= x.conn.Now && r.Read >= x.conn.Rcv.Read && r.Edge >= x.conn.Rcv.Edge && after.Snd.Base >= x.conn.Snd.Base && after.Snd.Edge >= x.conn.Snd.Edge, true)
}

// allOfTheStream: whatever is kept, or flies and can be read, is what was
// written there.
func (x *exchange) allOfTheStream(t *testing.T, after conn) {
	t.Helper()
	same(t, "what is kept to be sent", after.Snd.Text, x.stream[after.Snd.Base:])
	for _, p := range after.Rcv.Pieces {
		same(t, "what is kept to be read", p.Text, x.stream[p.At:p.At+int64(len(p.Text))])
	}
	for i, list := range listsOf(after.Net) {
		before := *listsOf(x.conn.Net)[i]
		for _, thing := range *list {
			if !slices.Contains(before, thing) {
				x.sends(t, after, thing)
			}
		}
	}
}

func (x *exchange) sends(t *testing.T, after conn, thing string) {
	t.Helper()
	piece, answer := impl.SegRead(thing), impl.AckRead(thing)
	switch {
	case piece.Code == impl.OK:
		s := piece.Seg
		same(t, "what flies There", s.Text, x.stream[s.Data:s.Data+int64(len(s.Text))])
		same(t, "how long all is", s.End == -1 || x.closed && s.End == int64(len(x.stream)), true)
	case answer.Code == impl.OK:
		a := answer.Ack
		same(t, "what flies Back", a.Data <= ackTold(after.Rcv, 0).Data && a.Edge <= after.Rcv.Edge, true)
	default:
		return // it is bent
	}
	x.flew = append(x.flew, thing)
	x.flew = x.flew[max(0, len(x.flew)-100):]
}

func (x *exchange) flying(path int64, back bool) int64 {
	return int64(len(*listOf(x.conn.Net, path, back)))
}

// writeUpTo writes as much of a text as there is place for, and closes behind
// the last byte.
func (x *exchange) writeUpTo(t *testing.T, text string) {
	t.Helper()
	if x.closed {
		return
	}
	place := impl.MaxBuf - len(x.conn.Snd.Text)
	from := len(x.stream)
	x.do(t, event{Kind: impl.EvWrite, Text: text[from:min(len(text), from+place)]})
	if len(x.stream) == len(text) {
		x.do(t, event{Kind: impl.EvClose})
	}
}

// carrier lets what flies on a path in one direction come as it does.
type carrier func(t *testing.T, x *exchange, random *rand.Rand, path int64, back bool)

func inOrder(t *testing.T, x *exchange, _ *rand.Rand, path int64, back bool) {
	t.Helper()
	for x.flying(path, back) > 0 {
		x.do(t, event{Kind: impl.EvTake, Path: path, Back: back})
	}
}

func turnedRound(t *testing.T, x *exchange, _ *rand.Rand, path int64, back bool) {
	t.Helper()
	for flying := x.flying(path, back); flying > 0; flying-- {
		x.do(t, event{Kind: impl.EvTake, Path: path, Back: back, At: flying - 1})
	}
}

func eachTwice(t *testing.T, x *exchange, random *rand.Rand, path int64, back bool) {
	t.Helper()
	for at := range x.flying(path, back) {
		x.do(t, event{Kind: impl.EvTwice, Path: path, Back: back, At: at})
	}
	inOrder(t, x, random, path, back)
}

func manyLost(t *testing.T, x *exchange, random *rand.Rand, path int64, back bool) {
	t.Helper()
	for x.flying(path, back) > 0 {
		kind := []int64{impl.EvTake, impl.EvDrop}[random.Intn(2)]
		x.do(t, event{Kind: kind, Path: path, Back: back, At: random.Int63n(x.flying(path, back))})
	}
}

func manyBent(t *testing.T, x *exchange, random *rand.Rand, path int64, back bool) {
	t.Helper()
	for at := range x.flying(path, back) {
		if random.Intn(2) == 0 {
			x.do(t, event{Kind: impl.EvBend, Path: path, Back: back, At: at, N: 1 + random.Int63n(255)})
		}
	}
	inOrder(t, x, random, path, back)
}

// toldAgain lets come what came long ago, from whichever way, ahead of what
// flies.
func toldAgain(t *testing.T, x *exchange, random *rand.Rand, path int64, back bool) {
	t.Helper()
	for range min(len(x.flew), 3) {
		x.do(t, event{Kind: impl.EvPut, Path: path, Back: back, Text: x.flew[random.Intn(len(x.flew))]})
	}
	turnedRound(t, x, random, path, back)
}

// onOneWay carries nothing but on the first way.
func onOneWay(t *testing.T, x *exchange, random *rand.Rand, path int64, back bool) {
	t.Helper()
	if path == 0 {
		inOrder(t, x, random, path, back)
	}
}

// TestWhatWasWrittenIsRead lets a text go from one end to the other, over one
// way and over several, which carry it each in one way, and then all in turn.
func TestWhatWasWrittenIsRead(t *testing.T) {
	carriers := map[string]carrier{"in order": inOrder, "turned round": turnedRound, "each twice": eachTwice, "many lost": manyLost, "many bent": manyBent, "told again": toldAgain, "on one way": onOneWay}
	all := []carrier{inOrder, turnedRound, eachTwice, manyLost, manyBent, toldAgain}
	carriers["anyhow"] = func(t *testing.T, x *exchange, random *rand.Rand, path int64, back bool) {
		t.Helper()
		all[random.Intn(len(all))](t, x, random, path, back)
	}
	for what, carry := range carriers {
		for paths := int64(1); paths <= mostPaths; paths++ {
			for _, sizes := range [][3]int64{{16, 64, 64}, {5, 7, 30}, {1, 9, 9}} {
				random := rand.New(rand.NewSource(20 + paths))
				x := newExchange(paths, sizes[0], sizes[1], sizes[2])
				text := randomText(random, 150*int(min(sizes[0], 3)))
				for steps := 0; !x.done; steps++ {
					same(t, what+": it comes to its end", steps < 3000, true)
					x.writeUpTo(t, text)
					x.do(t, event{Kind: impl.EvTick, N: 1 + random.Int63n(9)})
					for path := range paths {
						carry(t, x, random, path, false)
						carry(t, x, random, path, true)
					}
					x.do(t, event{Kind: impl.EvRead, N: 1 + random.Int63n(20)})
				}
				same(t, what+": all was read", x.got, text)
				same(t, what+": nothing kept", impl.RcvHeld(x.conn.Rcv), 0)
			}
		}
	}
}

// randomEvent is mostly one that can be done.
func randomEvent(random *rand.Rand, x *exchange) event {
	path, back := random.Int63n(int64(len(x.conn.Net))), random.Intn(2) == 0
	e := event{Path: path, Back: back, At: random.Int63n(x.flying(path, back) + 1)}
	switch random.Intn(24) {
	case 0, 1, 2:
		e.Kind, e.Text = impl.EvWrite, randomText(random, random.Intn(60))
	case 3, 4, 5:
		e.Kind, e.N = impl.EvRead, random.Int63n(30)
	case 6, 7, 8:
		e.Kind, e.N = impl.EvTick, random.Int63n(20)
	case 9:
		e.Kind = impl.EvDrop
	case 10, 11:
		e.Kind = impl.EvTwice
	case 12:
		e.Kind, e.N = impl.EvBend, random.Int63n(257)
	case 13, 14:
		e.Kind = impl.EvPut
		if len(x.flew) > 0 {
			e.Text = x.flew[random.Intn(len(x.flew))]
		}
	case 15:
		e = event{Kind: random.Int63n(12) - 1, Path: random.Int63n(6) - 1, Back: back, At: random.Int63n(10) - 1, N: random.Int63n(300) - 20}
		if e.Kind == impl.EvClose && random.Intn(10) > 0 {
			e.Kind = 0
		}
	default:
		e.Kind = impl.EvTake
	}
	return e
}

// TestStreamWhateverComes lets anything happen, and then one way carry all.
func TestStreamWhateverComes(t *testing.T) {
	random := rand.New(rand.NewSource(21))
	codes, read := map[int64]int{}, 0
	for round := range 160 {
		mostSize := 1 + random.Int63n(mostCap)
		paths := int64(1 + round%mostPaths)
		x := newExchange(paths, 1+random.Int63n(impl.MaxSeg), 1+random.Int63n(mostSize), mostSize)
		for range 100 + random.Intn(300) {
			codes[x.do(t, randomEvent(random, x)).Code]++
		}
		read += len(x.got)
		x.writeUpTo(t, x.stream)
		path := random.Int63n(paths)
		for steps := 0; !x.done; steps++ {
			same(t, "it comes to its end", steps < 1000, true)
			same(t, "stuck", impl.Stuck(x.conn), false)
			x.do(t, event{Kind: impl.EvTick, N: impl.RtoMax})
			inOrder(t, x, random, path, false)
			inOrder(t, x, random, path, true)
			x.do(t, event{Kind: impl.EvRead, N: 1 + random.Int63n(30)})
		}
		same(t, "all was read", x.got, x.stream)
	}
	for _, code := range []int64{impl.OK, impl.ErrForm, impl.ErrNone, impl.ErrFull, impl.ErrState} {
		if codes[code] < 100 {
			t.Errorf("code %d was told %d times only", code, codes[code])
		}
	}
	if read < 5000 {
		t.Errorf("only %d bytes were read as it came", read)
	}
}

// TestForged puts what was never sent, so that neither end knows any more what
// the other one has: each of the two stays right for itself.
func TestForged(t *testing.T) {
	random := rand.New(rand.NewSource(22))
	for round := range 300 {
		x := newExchange(int64(1+round%mostPaths), 1+random.Int63n(impl.MaxSeg), 1+random.Int63n(20), 40)
		c := x.conn
		for range 80 {
			x.conn = c
			e := randomEvent(random, x)
			if e.Kind == impl.EvPut {
				e.Text = forged(random)
			}
			out := impl.ConnDo(c, e)
			connIs(t, shown(e), out, doTold(c, e))
			if out.Code != impl.OK {
				continue
			}
			same(t, "each end", impl.SndRight(out.Conn.Snd) && impl.RcvRight(out.Conn.Rcv) && impl.NetRight(out.Conn.Net), true)
			if !impl.ConnRight(out.Conn) {
				break
			}
			c = out.Conn
		}
	}
}

func forged(random *rand.Rand) string {
	if random.Intn(2) == 0 {
		return pieceBytes(seg{Path: random.Int63n(4), Sub: random.Int63n(20), Data: random.Int63n(40), Text: randomText(random, random.Intn(17)), End: random.Int63n(60) - 1})
	}
	return answerBytes(ack{Path: random.Int63n(4), Sub: random.Int63n(20), Data: random.Int63n(40), Edge: random.Int63n(60)})
}
