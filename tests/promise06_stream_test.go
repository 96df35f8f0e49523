package tests

import (
	"math"
	"math/rand"
	"slices"
	"testing"

	"loop.example/g00847/impl"
)

// The tests of promise 6, as far as it tells of what comes of many calls, and
// of the memory of what is handed in and handed back.

// reading is one who reads a stream that comes on some paths, and what is
// known of it beside what the program tells.
type reading struct {
	rcv    rcv
	stream string
	got    string
	ended  bool             // an end was told, and could be taken
	came   []map[int64]bool // of each path the Subs that came
	acks   []impl.Ack       // of each path the last one
}

func newReading(paths int, size int64, most int64, stream string) *reading {
	rd := &reading{rcv: impl.RcvNew(int64(paths), size, most).Rcv, stream: stream}
	for range paths {
		rd.came = append(rd.came, map[int64]bool{})
	}
	rd.acks = make([]impl.Ack, paths)
	return rd
}

// take takes a part of the stream, and looks at what is told then.
func (rd *reading) take(t *testing.T, s seg) {
	t.Helper()
	out := impl.RcvTake(rd.rcv, s)
	rcvIs(t, "taken", out, takeTold(rd.rcv, s))
	same(t, "code", out.Code, impl.OK)
	same(t, "the answer is RcvAck", out.Ack, impl.RcvAck(out.Rcv, s.Path))
	same(t, "taking does not read, nor move Edge", [2]int64{out.Rcv.Read, out.Rcv.Edge}, [2]int64{rd.rcv.Read, rd.rcv.Edge})
	rd.came[s.Path][s.Sub] = true
	for sub := rd.acks[s.Path].Sub; sub < out.Ack.Sub; sub++ {
		same(t, "all below the answer's Sub came", rd.came[s.Path][sub], true)
	}
	same(t, "the answer never goes back", out.Ack.Sub >= rd.acks[s.Path].Sub && out.Ack.Data >= rd.acks[s.Path].Data, true)
	rd.acks[s.Path] = out.Ack
	rd.ended = rd.ended || out.Rcv.End != -1
	rd.stays(t, out.Rcv)
}

func (rd *reading) read(t *testing.T, n int64) bool {
	t.Helper()
	there := impl.RcvAck(rd.rcv, 0).Data - rd.rcv.Read
	out := impl.RcvRead(rd.rcv, n)
	rcvIs(t, "read", out, readTold(rd.rcv, n))
	same(t, "as much as is there, as far as one wants", int64(len(out.Text)), min(there, n))
	rd.got += out.Text
	same(t, "in its order", rd.got, rd.stream[:len(rd.got)])
	same(t, "Read", out.Rcv.Read, int64(len(rd.got)))
	same(t, "Done", out.Done, rd.ended && rd.got == rd.stream)
	rd.stays(t, out.Rcv)
	return out.Done
}

// stays looks at what always holds.
func (rd *reading) stays(t *testing.T, after rcv) {
	t.Helper()
	same(t, "right", impl.RcvRight(after), true)
	held := impl.RcvHeld(after)
	same(t, "no more kept than there is room", held <= after.Size && held <= after.Edge-after.Read && after.Size <= after.Cap, true)
	same(t, "the edge never goes back", after.Edge >= rd.rcv.Edge, true)
	same(t, "nor does Size", after.Size >= rd.rcv.Size && after.Cap == rd.rcv.Cap, true)
	rd.rcv = after
}

// part is the piece of the stream from a place on, that tells the end or not.
func (rd *reading) part(at int, size int, told bool) seg {
	at = min(at, len(rd.stream))
	s := seg{Data: int64(at), Text: rd.stream[at:min(at+size, len(rd.stream))], End: -1}
	if told {
		s.End = int64(len(rd.stream))
	}
	return s
}

func TestStreamInOrder(t *testing.T) {
	random := rand.New(rand.NewSource(15))
	for size := 1; size <= impl.MaxSeg; size++ {
		rd := newReading(1, 16, 64, randomText(random, 300))
		done := false
		for sub := int64(0); !done; sub++ {
			same(t, "it comes to its end", sub < 1000, true)
			s := rd.part(len(rd.got), size, sub%2 == 1)
			s.Sub = sub
			rd.take(t, s)
			same(t, "all in order is there", rd.acks[0].Data, s.Data+int64(len(s.Text)))
			done = rd.read(t, 16)
		}
		same(t, "all was read", rd.got, rd.stream)
		same(t, "nothing kept", impl.RcvHeld(rd.rcv), 0)
	}
}

// TestStreamOneByOneFromBehind takes single bytes, the last one first.
func TestStreamOneByOneFromBehind(t *testing.T) {
	rd := newReading(2, mostCap, mostCap, alphabet[:mostCap])
	for at := mostCap - 1; at >= 0; at-- {
		s := rd.part(at, 1, at == 40)
		s.Path, s.Sub = int64(at%2), int64(mostCap-1-at)/2
		rd.take(t, s)
		rd.take(t, s) // once more turns nothing
		same(t, "held", impl.RcvHeld(rd.rcv), int64(mostCap-at))
		if at > 0 {
			same(t, "not read", rd.read(t, 9), false)
		}
	}
	same(t, "all at once", rd.read(t, mostCap), true)
	same(t, "all was read", rd.got, rd.stream)
}

// TestStreamOnWays lets parts of a stream go on some ways at once, on each of
// which they are lost, doubled and turned round, until all is read.
func TestStreamOnWays(t *testing.T) {
	random := rand.New(rand.NewSource(16))
	for round := range 120 {
		paths := 1 + round%4
		most := 1 + random.Int63n(mostCap)
		rd := newReading(paths, 1+random.Int63n(most), most, randomText(random, random.Intn(400)))
		next := make([]int64, paths)
		fly := make([][]seg, paths)
		for done, steps := false, 0; !done; steps++ {
			same(t, "it comes to its end", steps < 100000, true)
			path := random.Intn(paths)
			switch random.Intn(4) {
			case 0: // sent, about what is missing
				at := max(0, len(rd.got)+random.Intn(int(most)+12)-8)
				if random.Intn(2) == 0 {
					at = int(impl.RcvAck(rd.rcv, 0).Data)
				}
				s := rd.part(at, random.Intn(impl.MaxSeg+1), random.Intn(8) == 0)
				s.Path, s.Sub = int64(path), next[path]
				next[path]++
				fly[path] = append(fly[path], s)
			case 1, 2: // taken, one of whichever place
				if len(fly[path]) == 0 {
					continue
				}
				at := random.Intn(len(fly[path]))
				if random.Intn(6) > 0 { // else it is lost, if it does not go on flying
					rd.take(t, fly[path][at])
				}
				if random.Intn(4) > 0 {
					fly[path] = slices.Delete(fly[path], at, at+1)
				}
			case 3:
				done = rd.read(t, 1+random.Int63n(most+3))
			}
		}
		same(t, "all was read", rd.got, rd.stream)
	}
}

// randomSeg is about what r waits for, and mostly right.
func randomSeg(random *rand.Rand, r rcv) seg {
	path := random.Int63n(int64(len(r.Froms)))
	s := seg{Path: path, End: -1, Text: randomText(random, random.Intn(impl.MaxSeg+1))}
	s.Sub = cutTo(r.Froms[path].Want+random.Int63n(12)-2, 0, impl.MaxTime)
	s.Data = cutTo(r.Read+random.Int63n(r.Size+20)-18, 0, impl.MaxTime)
	switch random.Intn(40) {
	case 0, 1:
		s.End = cutTo(s.Data+random.Int63n(40)-10, 0, impl.MaxTime)
	case 2:
		s.Path = random.Int63n(5)
	case 3:
		s.Sub = cutTo(r.Froms[path].Want+random.Int63n(200), 0, impl.MaxTime)
	case 4:
		s.End = -2
	}
	return s
}

// TestManyTakesAndReadsAsTold goes on from each right one, with texts that are
// not of one stream, too.
func TestManyTakesAndReadsAsTold(t *testing.T) {
	random := rand.New(rand.NewSource(17))
	codes := map[int64]int{}
	for _, first := range append(rightRcvs(), impl.RcvNew(4, 3, 64).Rcv, impl.RcvNew(2, 30, 31).Rcv) {
		for range 40 {
			r := first
			for range 60 {
				out := impl.RcvOut{}
				if random.Intn(4) == 0 {
					n := random.Int63n(r.Size+3) - 1
					out = impl.RcvRead(r, n)
					rcvIs(t, "read", out, readTold(r, n))
				} else {
					s := randomSeg(random, r)
					out = impl.RcvTake(r, s)
					rcvIs(t, "taken", out, takeTold(r, s))
				}
				codes[out.Code]++
				if out.Code == impl.OK {
					same(t, "right", impl.RcvRight(out.Rcv) && out.Rcv.Edge >= r.Edge, true)
					r = out.Rcv
				}
			}
		}
	}
	for _, code := range []int64{impl.OK, impl.ErrForm, impl.ErrNone, impl.ErrFull} {
		if codes[code] < 100 {
			t.Errorf("code %d was told %d times only", code, codes[code])
		}
	}
}

// rcvCall is one of the calls that tell of a Rcv.
type rcvCall func(r rcv) impl.RcvOut

func rcvCalls(r rcv) map[string]rcvCall {
	calls := map[string]rcvCall{
		"read one": func(r rcv) impl.RcvOut { return impl.RcvRead(r, 1) },
		"read two": func(r rcv) impl.RcvOut { return impl.RcvRead(r, 2) },
		"read all": func(r rcv) impl.RcvOut { return impl.RcvRead(r, 64) },
		"read no":  func(r rcv) impl.RcvOut { return impl.RcvRead(r, 0) },
	}
	for path := range int64(len(r.Froms)) {
		want := r.Froms[path].Want
		for _, s := range []seg{
			{Path: path, Sub: want, Data: r.Read, Text: "xyz", End: -1},
			{Path: path, Sub: min(want+1, impl.MaxTime), Data: r.Read, End: -1},
			{Path: path, Sub: min(want+5, impl.MaxTime), Data: max(r.Edge-1, 0), Text: "xyz", End: -1},
			{Path: path, Sub: min(want+90, impl.MaxTime), Data: r.Read, Text: "x", End: impl.MaxTime},
			{Path: path, Sub: max(want-1, 0), End: -1},
			{Path: path, Sub: -1},
		} {
			calls["take "+shown(s)] = func(r rcv) impl.RcvOut { return impl.RcvTake(r, s) }
		}
	}
	return calls
}

// withSpareRcv is that r with memory behind the end of each list, which is
// not to be written to either.
func withSpareRcv(r rcv) rcv {
	r = rcvCopy(r)
	r.Pieces = withRoom(r.Pieces)
	for i, f := range r.Froms {
		r.Froms[i].Late = append(slices.Clone(f.Late), 901, 902, 903)[:len(f.Late)]
	}
	r.Froms = append(r.Froms, from{Want: 904}, from{Want: 905})[:len(r.Froms)]
	return r
}

// wholeLists are the lists of r, with what is behind their ends.
func wholeLists(r rcv) rcv {
	r.Pieces = r.Pieces[:cap(r.Pieces)]
	r.Froms = slices.Clone(r.Froms[:cap(r.Froms)])
	for i := range r.Froms {
		r.Froms[i].Late = r.Froms[i].Late[:cap(r.Froms[i].Late)]
	}
	return r
}

// spoilers write over one list each, with what is behind its end, and put the
// wanted one in its place.
func spoilers(r *rcv, want rcv) []func() {
	want = rcvCopy(want)
	all := []func(){
		func() { overwrite(r.Pieces); r.Pieces = want.Pieces },
		func() {
			whole := r.Froms[:cap(r.Froms)]
			r.Froms = slices.Clone(r.Froms)
			clear(whole)
		},
	}
	for i := range r.Froms {
		all = append(all, func() {
			late := r.Froms[i].Late
			for k := range late[:cap(late)] {
				late[:cap(late)][k] = -7
			}
			r.Froms[i].Late = want.Froms[i].Late
		})
	}
	return all
}

// TestRcvMemory: no argument is changed, and an answer shares no memory with
// one, nor two lists of one answer with each other.
func TestRcvMemory(t *testing.T) {
	for _, right := range rightRcvs() {
		for what, do := range rcvCalls(right) {
			want := do(right)
			arg := withSpareRcv(right)
			before := rcvCopy(wholeLists(arg))
			out := do(arg)
			for i := range len(spoilers(&out.Rcv, want.Rcv)) {
				out = do(arg)
				spoilers(&out.Rcv, want.Rcv)[i]()
				rcvIs(t, what+", one list spoilt", out, want)
				same(t, what+", with its answer the argument turned", sameRcv(wholeLists(arg), before), true)
			}
			out = do(arg)
			impl.RcvAck(arg, 0)
			impl.RcvHeld(arg)
			impl.RcvRight(arg)
			same(t, what+", the argument stays", sameRcv(wholeLists(arg), before), true)
			for _, spoil := range spoilers(&arg, right) {
				spoil()
			}
			rcvIs(t, what+", the argument spoilt", out, want)
		}
	}
}

// TestRcvOfOneList hands in one list in the place of all that are Late.
func TestRcvOfOneList(t *testing.T) {
	late := []int64{6, 7, 9, 10, 11, 90, 91, 92}
	r := rcv{Read: 5, Pieces: []impl.Piece{{At: 7, Text: "a"}}, Edge: 20, Size: 20, Cap: 64, End: -1,
		Froms: []from{{Want: 5, Late: late}, {Want: 4, Late: late}, {Want: 5, Late: late[:3]}, {Want: 8, Late: late[2:]}}}
	before := rcvCopy(r)
	for what, do := range rcvCalls(r) {
		want := do(before)
		out := do(r)
		for i := range len(spoilers(&out.Rcv, want.Rcv)) {
			out = do(r)
			spoilers(&out.Rcv, want.Rcv)[i]()
			rcvIs(t, what+", one list spoilt", out, want)
			same(t, what+", the argument stays", sameRcv(r, before), true)
		}
	}
}

// TestNewRcvsAreNewMemory writes over one, and looks at another one.
func TestNewRcvsAreNewMemory(t *testing.T) {
	one, other := impl.RcvNew(3, 5, 9), impl.RcvNew(3, 5, 9)
	for _, spoil := range spoilers(&one.Rcv, other.Rcv) {
		spoil()
	}
	want := impl.RcvOut{Rcv: rcv{Edge: 5, Size: 5, Cap: 9, End: -1, Froms: froms(3)}}
	rcvIs(t, "the other one", other, want)
	rcvIs(t, "one more", impl.RcvNew(3, 5, 9), want)
}

// TestNothingIsKept does each call again behind others of other ones.
func TestNothingIsKept(t *testing.T) {
	for _, r := range rightRcvs() {
		for what, do := range rcvCalls(r) {
			first := do(r)
			for _, other := range rightRcvs() {
				impl.RcvTake(other, seg{Sub: 1, Data: other.Read, Text: "kept", End: impl.MaxTime})
				impl.RcvRead(other, math.MaxInt64)
			}
			rcvIs(t, what, do(r), first)
		}
	}
}
