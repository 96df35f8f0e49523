package tests

import (
	"fmt"
	"math"
	"slices"
	"strings"
	"testing"

	"loop.example/g00847/impl"
)

// The tests of promise 8: whatever is lost, doubled, bent, and turned round,
// on whichever ways: what is read is what was written, in its order, as far as
// it was read; there is never more kept than there is room; and both ends stay
// right. Here is which ones are right, and what the document says of an event;
// what each kind of event does, when one is stuck, and what comes of many
// events, each has a file of its own.

type (
	conn  = impl.Conn
	event = impl.Event
)

// hasConnForm is what the document says of a right one, place by place.
func hasConnForm(c conn) bool {
	if !hasSndForm(c.Snd) || !hasRcvForm(c.Rcv) || !hasNetForm(c.Net) || !within(c.Now, 0, most) {
		return false
	}
	if len(c.Snd.Lines) != len(c.Rcv.Froms) || len(c.Rcv.Froms) != len(c.Net) {
		return false
	}
	for _, l := range c.Snd.Lines {
		if slices.ContainsFunc(l.Out, func(x sent) bool { return x.At > c.Now }) {
			return false
		}
	}
	came := placesOf(c.Rcv.Pieces)
	for place := c.Rcv.Read; place < c.Snd.Base; place++ {
		if _, there := came[place]; !there {
			return false
		}
	}
	return c.Snd.Edge <= c.Rcv.Edge
}

// doTold is what the document says that ConnDo tells, put together of what it
// says of who writes, who reads, and what flies.
func doTold(c conn, e event) impl.ConnOut {
	if !hasConnForm(c) || !within(e.Kind, 1, 9) {
		return connCode(impl.ErrForm)
	}
	out := impl.ConnOut{Conn: connCopy(c)}
	switch e.Kind {
	case impl.EvWrite:
		out.Code = writesOn(&out.Conn, writeTold(c.Snd, e.Text), true)
	case impl.EvClose:
		out.Code = writesOn(&out.Conn, closeTold(c.Snd), true)
	case impl.EvTick:
		out.Code = ticksOn(&out.Conn, e.N)
	case impl.EvRead:
		readsOn(&out, e.N)
	default:
		out.Code = fliesOn(&out.Conn, e)
	}
	if out.Code != impl.OK {
		return connCode(out.Code)
	}
	return out
}

// writesOn is what becomes of what a call of who writes tells, and of what is
// filled then.
func writesOn(c *conn, told impl.SndOut, fill bool) int64 {
	if told.Code != impl.OK {
		return told.Code
	}
	c.Snd = told.Snd
	segs := told.Segs
	if fill {
		more := fillTold(c.Snd, c.Now)
		c.Snd, segs = more.Snd, append(segs, more.Segs...)
	}
	for _, s := range segs {
		if hasSegForm(s) {
			sendOn(c, s.Path, false, pieceBytes(s))
		}
	}
	return impl.OK
}

func pieceBytes(s seg) string {
	return sealed(segBody(s))
}

func answerBytes(a ack) string {
	return sealed(ackBody(a))
}

// sendOn lets something fly behind the others, if there is place for it.
func sendOn(c *conn, path int64, back bool, bytes string) {
	if list := listOf(c.Net, path, back); len(*list) < impl.MaxFly {
		*list = append(*list, bytes)
	}
}

func ticksOn(c *conn, n int64) int64 {
	if n < 1 {
		return impl.ErrForm
	}
	if float64(c.Now)+float64(n) > most {
		return impl.ErrRange
	}
	c.Now += n
	return writesOn(c, tickTold(c.Snd, c.Now), false)
}

func readsOn(out *impl.ConnOut, n int64) {
	told := readTold(out.Conn.Rcv, n)
	moved := told.Rcv.Edge != out.Conn.Rcv.Edge
	out.Conn.Rcv, out.Text, out.Done, out.Code = told.Rcv, told.Text, told.Done, told.Code
	if told.Code != impl.OK || !moved {
		return
	}
	for path := range int64(len(told.Rcv.Froms)) {
		sendOn(&out.Conn, path, true, answerBytes(ackTold(told.Rcv, path)))
	}
}

func fliesOn(c *conn, e event) int64 {
	names := map[int64]string{impl.EvTake: "take", impl.EvDrop: "take", impl.EvTwice: "twice", impl.EvBend: "bend", impl.EvPut: "send"}
	told := call{name: names[e.Kind], path: e.Path, back: e.Back, at: e.At, by: e.N, bytes: e.Text}.told(c.Net)
	if told.Code != impl.OK {
		return told.Code
	}
	c.Net = told.Net
	if e.Kind == impl.EvTake {
		comesOn(c, told.Bytes, e.Back)
	}
	return impl.OK
}

// comesOn is what becomes of what was taken of a way. What is not read, or not
// taken, turns nothing.
func comesOn(c *conn, bytes string, back bool) {
	piece, answer := impl.SegRead(bytes), impl.AckRead(bytes)
	switch {
	case !back && piece.Code == impl.OK:
		if told := takeTold(c.Rcv, piece.Seg); told.Code == impl.OK {
			c.Rcv = told.Rcv
			sendOn(c, told.Ack.Path, true, answerBytes(told.Ack))
		}
	case back && answer.Code == impl.OK:
		writesOn(c, answerTold(c.Snd, answer.Ack, c.Now), true)
	}
}

func connCopy(c conn) conn {
	return conn{Snd: sndCopy(c.Snd), Rcv: rcvCopy(c.Rcv), Net: netCopy(c.Net), Now: c.Now}
}

func connCode(code int64) impl.ConnOut {
	return impl.ConnOut{Code: code}
}

func sameConn(a conn, b conn) bool {
	return sameSnd(a.Snd, b.Snd) && sameRcv(a.Rcv, b.Rcv) && sameNet(a.Net, b.Net) && a.Now == b.Now
}

// connIs holds all fields against each other; an empty list and none are the same.
func connIs(t *testing.T, what string, got impl.ConnOut, want impl.ConnOut) {
	t.Helper()
	switch {
	case got.Code != want.Code:
		t.Fatalf("%s: got code %d, want %d", what, got.Code, want.Code)
	case got.Text != want.Text || got.Done != want.Done:
		t.Fatalf("%s: got %q and %t, want %q and %t", what, got.Text, got.Done, want.Text, want.Done)
	case !sameConn(got.Conn, want.Conn):
		t.Fatalf("%s: got %s, want %s", what, inFull(got.Conn), inFull(want.Conn))
	}
}

// inFull cuts nothing, as it is seldom at the front where two of them differ.
func inFull(c conn) string {
	return fmt.Sprintf("%+q", fmt.Sprintf("%+v", c))
}

// doIs does it twice, so that something kept would show, and looks at the
// argument, too: it is not changed.
func doIs(t *testing.T, what string, c conn, e event, want impl.ConnOut) {
	t.Helper()
	before := connCopy(c)
	for range 2 {
		connIs(t, what+": "+shown(e), impl.ConnDo(c, e), want)
	}
	if !sameConn(c, before) {
		t.Fatalf("%s: %s changed %s to %s", what, shown(e), inFull(before), inFull(c))
	}
}

func doAsTold(t *testing.T, what string, c conn, e event) impl.ConnOut {
	t.Helper()
	want := doTold(c, e)
	doIs(t, what, c, e, want)
	return want
}

// midway has all at once: two bytes can be read, and two are there ahead of
// their time; two pieces are out on each way, and all kinds of things fly.
func midway() conn {
	return conn{
		Snd: snd{Base: 4, Text: "efghijklmnop", Next: 12, Edge: 14, Open: true, Mss: 2, Lines: []line{
			{Clock: clock{Mean: 3, Var: 1, Rto: 7}, Most: 3, Next: 4, Out: []sent{{Sub: 2, Data: 4, Len: 2, At: 50, Tries: 1}, {Sub: 3, Data: 8, Len: 2, At: 58, Tries: 2}}},
			{Clock: clock{Rto: 8}, Most: 2, Next: 3, Out: []sent{{Sub: 1, Data: 6, Len: 2, At: 51, Tries: 1}, {Sub: 2, Data: 10, Len: 2, At: 60, Tries: 1}}},
		}},
		Rcv: rcv{Read: 4, Pieces: []impl.Piece{{At: 4, Text: "ef"}, {At: 8, Text: "ij"}}, Edge: 14, Size: 10, Cap: 20, End: -1, Froms: []from{{Want: 4}, {Want: 1}}},
		Net: net{
			{There: []string{pieceBytes(letters(0, 3, 8, "ij"))}, Back: []string{answerBytes(ack{Path: 0, Sub: 4, Data: 6, Edge: 14}), answerBytes(ack{Path: 0, Sub: 3, Data: 6, Edge: 14})}},
			{There: []string{pieceBytes(letters(1, 1, 6, "gh")), pieceBytes(letters(1, 2, 10, "kl"))}, Back: []string{answerBytes(ack{Path: 1, Sub: 1, Data: 4, Edge: 14})}},
		},
		Now: 60,
	}
}

// crowded has as many things flying as may, on each of four ways, and as many
// pieces out.
func crowded() conn {
	c := conn{
		Snd: snd{Base: 10, Text: alphabet[:impl.MaxBuf], Next: 42, Edge: 74, Mss: 16},
		Rcv: rcv{Read: 10, Pieces: []impl.Piece{{At: 10, Text: "abc"}}, Edge: 74, Size: 64, Cap: 64, End: 10 + impl.MaxBuf},
		Now: 9,
	}
	for path := range int64(mostPaths) {
		l := line{Clock: clock{Mean: path, Rto: 4 + path}, Most: 7, Next: 20, Out: outOf(impl.MaxOut, 10+path)}
		w := impl.Way{}
		for i, x := range l.Out {
			w.There = append(w.There, pieceBytes(impl.SndSeg(snd{Base: 10, Text: alphabet[:impl.MaxBuf], Mss: 1, Next: 10, Edge: 10, Lines: lines(4)}, path, x)))
			w.Back = append(w.Back, answerBytes(ack{Path: path, Sub: int64(i), Data: 10 + int64(i)%4, Edge: 74}))
		}
		c.Snd.Lines = append(c.Snd.Lines, l)
		c.Rcv.Froms = append(c.Rcv.Froms, from{Want: 1, Late: []int64{4, 5}})
		c.Net = append(c.Net, w)
	}
	return c
}

// ended is closed; all was written, and all but "op" was read.
func ended() conn {
	return conn{
		Snd: snd{Base: 14, Text: "op", Next: 16, Edge: 20, Mss: 16, Lines: []line{{Clock: clock{Rto: 64}, Most: 1, Next: 9, Out: []sent{{Sub: 8, Data: 14, Len: 2, At: 7, Tries: 100}}}}},
		Rcv: rcv{Read: 14, Pieces: []impl.Piece{{At: 14, Text: "op"}}, Edge: 20, Size: 6, Cap: 6, End: 16, Froms: []from{{Want: 9}}},
		Net: net{{Back: []string{answerBytes(ack{Sub: 9, Data: 16, Edge: 20}), answerBytes(ack{Sub: 8, Data: 14, Edge: 20})}}},
		Now: 71,
	}
}

// lastTimes has all numbers as high as they come.
func lastTimes() conn {
	return conn{
		Snd: snd{Base: most - 6, Text: "abcde", Next: most - 4, Edge: most - 1, Open: true, Mss: 1, Lines: []line{
			{Clock: clock{Rto: 4}, Most: 2, Next: most - 1, Out: []sent{{Sub: most - 2, Data: most - 5, Len: 1, At: most, Tries: 1}}},
			{Clock: clock{Rto: 5}, Most: 2, Next: most, Out: []sent{{Sub: most - 1, Data: most - 6, Len: 1, At: most - 5, Tries: 1}}},
		}},
		Rcv: rcv{Read: most - 7, Pieces: []impl.Piece{{At: most - 7, Text: "z"}}, Edge: most, Size: 7, Cap: 64, End: -1, Froms: []from{{Want: most - 2}, {Want: most}}},
		Net: net{{There: []string{pieceBytes(letters(0, most-2, most-5, "b"))}}, {There: []string{pieceBytes(letters(1, most, most-6, "a")), pieceBytes(letters(1, most-1, most-6, "a"))}}},
		Now: most,
	}
}

// still has nothing out, and nothing that flies, and no number left for what
// it would ask with.
func still() conn {
	l := line{Clock: clock{Rto: 8}, Most: 2, Next: most}
	return conn{
		Snd: snd{Text: "abc", Edge: 5, Open: true, Mss: 2, Lines: []line{l, l}},
		Rcv: rcv{Edge: 5, Size: 5, Cap: 9, End: -1, Froms: froms(2)},
		Net: make(net, 2),
		Now: 30,
	}
}

func newConn(paths int64, mss int64, size int64, mostSize int64) conn {
	return impl.ConnNew(paths, mss, size, mostSize).Conn
}

func rightConns() []conn {
	return []conn{newConn(1, 1, 1, 1), newConn(2, 3, 6, 12), newConn(4, 16, 64, 64), midway(), crowded(), ended(), lastTimes(), still()}
}

// eventsFor are events of each kind about all edges of c.
func eventsFor(c conn) []event {
	left := max(0, impl.MaxBuf-len(c.Snd.Text))
	var all []event
	for _, text := range []string{"", "x", alphabet[:100], alphabet[:101], alphabet[:left], alphabet[:left+1], alphabet[:impl.MaxBuf+1], strings.Repeat("x", impl.MaxBytes), strings.Repeat("x", impl.MaxBytes+1)} {
		all = append(all, event{Kind: impl.EvWrite, Text: text}, event{Kind: impl.EvWrite, Path: -1, Back: true, At: -1, N: -1, Text: text}, event{Kind: 0, Text: text})
		for _, path := range []int64{-1, 0, int64(len(c.Net)) - 1, int64(len(c.Net))} {
			all = append(all, event{Kind: impl.EvPut, Path: path, Text: text}, event{Kind: impl.EvPut, Path: path, Back: true, At: -1, N: -1, Text: text})
		}
	}
	for _, n := range append([]int64{-2, -1, 0, 1, 2, 3, 7, 8, 9, 64, 65, most - c.Now - 1, most - c.Now, most - c.Now + 1, most, most + 1}, farNumbers...) {
		all = append(all, event{Kind: impl.EvRead, N: n}, event{Kind: impl.EvTick, N: n}, event{Kind: n}, event{Kind: impl.EvRead, Path: -1, Back: true, At: -1, N: n, Text: "x"}, event{Kind: impl.EvTick, Path: -1, Back: true, At: -1, N: n, Text: "x"})
	}
	for kind := int64(-1); kind <= 11; kind++ {
		all = append(all, event{Kind: kind}, event{Kind: kind, Path: -1, Back: true, At: -1, N: 1, Text: "x"})
	}
	return append(all, netEventsFor(c)...)
}

func netEventsFor(c conn) []event {
	var all []event
	last := int64(len(c.Net)) - 1
	for _, path := range append([]int64{-1, 0, 1, last, last + 1, mostPaths}, farNumbers[:4]...) {
		for _, back := range bothDirections {
			flying := int64(0)
			if within(path, 0, last) {
				flying = int64(len(*listOf(c.Net, path, back)))
			}
			for _, at := range []int64{math.MinInt64, -1, 0, 1, flying - 1, flying, flying + 1, impl.MaxFly, math.MaxInt64} {
				for _, kind := range []int64{impl.EvTake, impl.EvDrop, impl.EvTwice} {
					all = append(all, event{Kind: kind, Path: path, Back: back, At: at})
				}
				for _, n := range []int64{math.MinInt64, -1, 0, 1, 128, 255, 256, 257, math.MaxInt64} {
					all = append(all, event{Kind: impl.EvBend, Path: path, Back: back, At: at, N: n})
				}
			}
		}
	}
	return all
}

func TestRightConns(t *testing.T) {
	for i, c := range rightConns() {
		what := "right " + shown(i)
		same(t, what, hasConnForm(c), true)
		same(t, what, impl.ConnRight(c), true)
		for _, e := range eventsFor(c) {
			out := doAsTold(t, what, c, e)
			if out.Code != impl.OK {
				continue
			}
			same(t, what+", and then "+shown(e), impl.ConnRight(out.Conn) && hasConnForm(out.Conn), true)
			for _, next := range []event{{Kind: impl.EvWrite, Text: "abcdefgh"}, {Kind: impl.EvTake}, {Kind: impl.EvTake, Back: true}, {Kind: impl.EvRead, N: 5}, {Kind: impl.EvTick, N: 8}} {
				doAsTold(t, what+", and then "+shown(e), out.Conn, next)
			}
		}
	}
}

func TestConnNew(t *testing.T) {
	numbers := append([]int64{-1, 0, 1, 2, 4, 5, 15, 16, 17, 63, 64, 65, most, most + 1}, math.MinInt64, math.MaxInt64)
	for _, paths := range append([]int64{3, impl.MaxList}, numbers...) {
		for _, mss := range numbers {
			for _, size := range numbers {
				for _, mostSize := range numbers {
					want := connCode(impl.ErrForm)
					if within(paths, 1, 4) && within(mss, 1, impl.MaxSeg) && within(mostSize, 1, mostCap) && within(size, 1, mostSize) {
						want.Code = impl.OK
						want.Conn.Snd = snd{Edge: size, Open: true, Mss: mss, Lines: lines(int(paths))}
						want.Conn.Rcv = rcv{Edge: size, Size: size, Cap: mostSize, End: -1, Froms: froms(int(paths))}
						want.Conn.Net = make(net, paths)
					}
					got := impl.ConnNew(paths, mss, size, mostSize)
					connIs(t, "new "+shown([]int64{paths, mss, size, mostSize}), got, want)
					same(t, "right, if it is told", impl.ConnRight(got.Conn), got.Code == impl.OK)
				}
			}
		}
	}
	written := conn{
		Snd: snd{Edge: 6, Open: true, Mss: 3, Lines: []line{{Clock: clock{Rto: 8}, Most: 2}, {Clock: clock{Rto: 8}, Most: 2}}},
		Rcv: rcv{Edge: 6, Size: 6, Cap: 12, End: -1, Froms: []from{{}, {}}},
		Net: net{{}, {}},
	}
	connIs(t, "as written down", impl.ConnNew(2, 3, 6, 12), impl.ConnOut{Conn: written})
}

// connTurned is c with something turned.
func connTurned(c conn, turn func(c *conn)) conn {
	c = connCopy(c)
	turn(&c)
	return c
}

// TestConnAtTheLimits: each limit, and one beyond it.
func TestConnAtTheLimits(t *testing.T) {
	for _, c := range []struct {
		what  string
		right bool
		turn  func(c *conn)
	}{
		{"as it is", true, func(c *conn) {}},
		{"Now when the last one was sent", true, func(c *conn) { c.Now = 60 }},
		{"Now one ahead of that", false, func(c *conn) { c.Now = 59 }},
		{"Now 0", false, func(c *conn) { c.Now = 0 }},
		{"Now -1", false, func(c *conn) { c.Now = -1 }},
		{"Now MaxTime", true, func(c *conn) { c.Now = most }},
		{"Now one more", false, func(c *conn) { c.Now = most + 1 }},
		{"the first one sent at Now", true, func(c *conn) { c.Snd.Lines[0].Out[0].At = 60 }},
		{"the first one sent one later", false, func(c *conn) { c.Snd.Lines[0].Out[0].At = 61 }},
		{"the last one sent one later", false, func(c *conn) { c.Snd.Lines[1].Out[1].At = 61 }},
		{"Edge of Snd at that of Rcv", true, func(c *conn) { c.Snd.Edge = 14 }},
		{"Edge of Snd one less", true, func(c *conn) { c.Snd.Edge = 13 }},
		{"Edge of Snd one more", false, func(c *conn) { c.Snd.Edge = 15 }},
		{"Edge of Rcv one less", false, func(c *conn) { c.Rcv.Edge = 13 }},
		{"Base at what is told of Rcv", true, func(c *conn) { c.Snd = baseAt(6) }},
		{"Base one more", false, func(c *conn) { c.Snd = baseAt(7) }},
		{"Base as far as the piece behind", false, func(c *conn) { c.Snd = baseAt(8) }},
		{"Base one more, nothing there", false, func(c *conn) { c.Rcv.Pieces, c.Snd = nil, baseAt(5) }},
		{"Base at Read, nothing there", true, func(c *conn) { c.Rcv.Pieces = nil }},
		{"Base at Read, something behind", true, func(c *conn) { c.Rcv.Pieces = c.Rcv.Pieces[1:] }},
		{"Base one more, something behind", false, func(c *conn) { c.Rcv.Pieces, c.Snd = c.Rcv.Pieces[1:], baseAt(5) }},
		{"one Line less", false, func(c *conn) { c.Snd.Lines = c.Snd.Lines[:1] }},
		{"one Line more", false, func(c *conn) { c.Snd.Lines = append(c.Snd.Lines, lines(1)...) }},
		{"one From less", false, func(c *conn) { c.Rcv.Froms = c.Rcv.Froms[:1] }},
		{"one From more", false, func(c *conn) { c.Rcv.Froms = append(c.Rcv.Froms, from{}) }},
		{"one Way less", false, func(c *conn) { c.Net = c.Net[:1] }},
		{"one Way more", false, func(c *conn) { c.Net = append(c.Net, impl.Way{}) }},
		{"two are less", false, func(c *conn) { c.Net, c.Rcv.Froms = c.Net[:1], c.Rcv.Froms[:1] }},
		{"two are more", false, func(c *conn) { c.Net, c.Snd.Lines = append(c.Net, impl.Way{}), append(c.Snd.Lines, lines(1)...) }},
		{"all three are less", true, func(c *conn) { c.Net, c.Rcv.Froms, c.Snd.Lines = c.Net[:1], c.Rcv.Froms[:1], c.Snd.Lines[:1] }},
		{"Snd alone is not right", false, func(c *conn) { c.Snd.Mss = 0 }},
		{"Rcv alone is not right", false, func(c *conn) { c.Rcv.Cap = 65 }},
		{"Net alone is not right", false, func(c *conn) { c.Net[1].There[0] = "" }},
		{"Net has nine", false, func(c *conn) { c.Net[0].Back = things(9, "x") }},
		{"no Net", false, func(c *conn) { c.Net = nil }},
		{"the zero one", false, func(c *conn) { *c = conn{} }},
	} {
		x := connTurned(midway(), c.turn)
		same(t, c.what, impl.ConnRight(x), c.right)
		same(t, c.what+", by the model", hasConnForm(x), c.right)
		if !c.right {
			neverDone(t, c.what, x)
		}
	}
}

// baseAt is who writes of midway, who knows that all ahead of a place came.
func baseAt(base int64) snd {
	s := midway().Snd
	s.Text, s.Base = s.Text[base-s.Base:], base
	for i := range s.Lines {
		s.Lines[i].Out = leftFrom(s.Lines[i].Out, base)
	}
	return s
}

// neverDone looks at what is told of one that is not right: nothing but the
// fault, whatever is handed in beside it.
func neverDone(t *testing.T, what string, c conn) {
	t.Helper()
	long := strings.Repeat("x", impl.MaxBytes+1)
	for kind := int64(-1); kind <= 10; kind++ {
		for _, e := range []event{{Kind: kind}, {Kind: kind, N: 1, Text: "x"}, {Kind: kind, Path: 9, Back: true, At: -1, N: -1, Text: long}} {
			doIs(t, what, c, e, connCode(impl.ErrForm))
		}
	}
	for _, l := range [][]event{nil, {{}}, {{Kind: impl.EvWrite, Text: "x"}}, make([]event, impl.MaxList)} {
		connIs(t, what+": all", impl.ConnAll(c, l), connCode(impl.ErrForm))
	}
	connIs(t, what+": too many", impl.ConnAll(c, make([]event, impl.MaxList+1)), connCode(impl.ErrSize))
	same(t, what+": stuck", impl.Stuck(c), false)
}

// connsWithOneFieldTurned are c with each field about its limits; most of
// these are not right.
func connsWithOneFieldTurned(c conn) []conn {
	var all []conn
	for _, now := range append([]int64{-2, -1, 0, 1, c.Now - 1, c.Now + 1, most - 1, most, most + 1, most + 2}, farNumbers...) {
		all = append(all, connTurned(c, func(c *conn) { c.Now = now }))
	}
	for _, s := range sndsWithOneFieldTurned(c.Snd) {
		all = append(all, connTurned(c, func(c *conn) { c.Snd = s }))
	}
	for _, r := range wrongInOneField(c.Rcv) {
		all = append(all, connTurned(c, func(c *conn) { c.Rcv = r }))
	}
	for _, n := range append(rightNets(), wrongNets()...) {
		all = append(all, connTurned(c, func(c *conn) { c.Net = n }))
	}
	return all
}

func TestConnWrongInOneField(t *testing.T) {
	right, wrong := 0, 0
	for _, c := range rightConns() {
		for _, x := range connsWithOneFieldTurned(c) {
			same(t, "right "+shown(x), impl.ConnRight(x), hasConnForm(x))
			for _, e := range []event{{Kind: impl.EvWrite, Text: "xy"}, {Kind: impl.EvTake, Back: true}, {Kind: impl.EvTake}, {Kind: impl.EvTick, N: 9}} {
				doAsTold(t, "one field turned", x, e)
			}
			if hasConnForm(x) {
				right++
				continue
			}
			wrong++
			connIs(t, "one field turned", impl.ConnAll(x, []event{{Kind: impl.EvTick, N: 1}}), connCode(impl.ErrForm))
			same(t, "stuck", impl.Stuck(x), false)
		}
	}
	if right < 200 || wrong < 1000 {
		t.Errorf("only %d of them are right, and %d are not", right, wrong)
	}
}
