package tests

import (
	"math/rand"
	"slices"
	"testing"

	"loop.example/g00847/impl"
)

// The tests of promise 7, as far as it tells of what comes of many calls, and
// of the memory of what is handed in and handed back.

// talk is one who writes a stream, one who reads it, and what flies between
// them on some paths, beside what is known without the program.
type talk struct {
	snd    snd
	rcv    rcv
	now    int64
	stream string
	got    string
	done   bool
	laid   []int64 // of each path how many pieces were laid
	there  [][]seg
	back   [][]ack
}

func newTalk(paths int, mss int64, size int64, mostSize int64) *talk {
	return &talk{
		snd:   impl.SndNew(int64(paths), mss, size).Snd,
		rcv:   impl.RcvNew(int64(paths), size, mostSize).Rcv,
		laid:  make([]int64, paths),
		there: make([][]seg, paths),
		back:  make([][]ack, paths),
	}
}

// tell takes what a call tells, looks at it, and lets the pieces fly.
func (k *talk) tell(t *testing.T, c sndCall) {
	t.Helper()
	out := c.do(k.snd)
	sndIs(t, c.what, out, c.told(k.snd))
	same(t, c.what+": code", out.Code, impl.OK)
	staysRight(t, c.what, out)
	same(t, "neither Base nor Edge goes back", out.Snd.Base >= k.snd.Base && out.Snd.Edge >= k.snd.Edge, true)
	k.snd = out.Snd
	for _, s := range out.Segs {
		k.send(t, s)
	}
	k.mustBeOut(t)
}

func (k *talk) send(t *testing.T, s seg) {
	t.Helper()
	behind := s.Data + int64(len(s.Text))
	same(t, "it can be sent", impl.SegRight(s), true)
	same(t, "not at the edge", behind <= k.rcv.Edge, true)
	same(t, "as it was written", s.Text, k.stream[s.Data:behind])
	same(t, "how long all is", s.End == -1 && k.snd.Open || s.End == int64(len(k.stream)) && !k.snd.Open, true)
	same(t, "its Sub was there, or is the next one", s.Sub <= k.laid[s.Path], true)
	if s.Sub == k.laid[s.Path] {
		k.laid[s.Path]++
	}
	k.there[s.Path] = append(k.there[s.Path], s)
}

// mustBeOut: what was sent, and is not known to be read, is not forgotten. The
// piece that Base lies in would be told again.
func (k *talk) mustBeOut(t *testing.T) {
	t.Helper()
	out := k.snd.Base == k.snd.Next
	for i, l := range k.snd.Lines {
		same(t, "the line's Next", l.Next, k.laid[i])
		out = out || slices.ContainsFunc(l.Out, func(x sent) bool { return x.Data == k.snd.Base && x.Len > 0 })
	}
	same(t, "the piece that Base lies in is out", out, true)
}

func (k *talk) write(t *testing.T, text string) {
	t.Helper()
	text = text[:min(len(text), impl.MaxBuf-len(k.snd.Text))]
	k.stream += text
	k.tell(t, writeCall(text))
	k.tell(t, fillCall(k.now))
}

func (k *talk) close(t *testing.T) {
	t.Helper()
	if k.snd.Open {
		k.tell(t, closeCall())
	}
}

func (k *talk) tick(t *testing.T, by int64) {
	t.Helper()
	k.now += by
	k.tell(t, tickCall(k.now))
}

func (k *talk) read(t *testing.T, n int64) {
	t.Helper()
	out := impl.RcvRead(k.rcv, n)
	k.got += out.Text
	same(t, "in its order", k.got, k.stream[:len(k.got)])
	k.done = k.done || out.Done
	same(t, "done", !k.done || k.got == k.stream && !k.snd.Open, true)
	moved := out.Rcv.Edge != k.rcv.Edge
	k.rcv = out.Rcv
	for path := range k.back {
		if moved {
			k.back[path] = append(k.back[path], impl.RcvAck(k.rcv, int64(path)))
		}
	}
}

func (k *talk) carryThere(t *testing.T, path int, at int) {
	t.Helper()
	out := impl.RcvTake(k.rcv, k.there[path][at])
	same(t, "taken", out.Code, impl.OK)
	k.rcv = out.Rcv
	k.back[path] = append(k.back[path], out.Ack)
}

func (k *talk) carryBack(t *testing.T, path int, at int) {
	t.Helper()
	k.tell(t, ackCall(k.back[path][at], k.now))
	k.tell(t, fillCall(k.now))
}

// anything does one thing as it comes; what flies is carried, doubled, turned
// round, or lost.
func (k *talk) anything(t *testing.T, random *rand.Rand) {
	t.Helper()
	path := random.Intn(len(k.there))
	switch random.Intn(8) {
	case 0:
		if k.snd.Open {
			k.write(t, randomText(random, random.Intn(40)))
		}
	case 1:
		k.tick(t, 1+random.Int63n(20))
	case 2:
		k.read(t, 1+random.Int63n(30))
	case 3, 4:
		k.there[path] = anyOf(random, k.there[path], func(at int) { k.carryThere(t, path, at) })
	default:
		k.back[path] = anyOf(random, k.back[path], func(at int) { k.carryBack(t, path, at) })
	}
	for i := range k.there { // the oldest are lost, so that they do not become too many
		k.there[i] = k.there[i][max(0, len(k.there[i])-8):]
		k.back[i] = k.back[i][max(0, len(k.back[i])-8):]
	}
}

// anyOf carries one thing, mostly, and lets it go on flying, now and then; it
// is lost, if neither is done.
func anyOf[T any](random *rand.Rand, flying []T, carry func(at int)) []T {
	if len(flying) == 0 {
		return flying
	}
	at := random.Intn(len(flying))
	if random.Intn(4) > 0 {
		carry(at)
	}
	if random.Intn(5) == 0 {
		return flying
	}
	return slices.Delete(slices.Clone(flying), at, at+1)
}

// carryAll lets all that flies on one path come, and nothing else.
func (k *talk) carryAll(t *testing.T, path int) {
	t.Helper()
	for len(k.there[path])+len(k.back[path]) > 0 {
		for len(k.there[path]) > 0 {
			k.carryThere(t, path, 0)
			k.there[path] = k.there[path][1:]
		}
		for len(k.back[path]) > 0 {
			k.carryBack(t, path, 0)
			k.back[path] = k.back[path][1:]
		}
	}
	for i := range k.there {
		k.there[i], k.back[i] = nil, nil
	}
}

// TestStreamOnLines writes as it comes, on lines that lose, double and turn
// round, and then lets one of them carry all: what is left is told, and read.
func TestStreamOnLines(t *testing.T) {
	random := rand.New(rand.NewSource(18))
	for round := range 80 {
		paths := 1 + round%mostPaths
		size := 1 + random.Int63n(mostCap)
		k := newTalk(paths, 1+random.Int63n(impl.MaxSeg), size, size+random.Int63n(mostCap-size+1))
		for range 50 + random.Intn(300) {
			k.anything(t, random)
			if random.Intn(200) == 0 {
				k.close(t)
			}
		}
		k.close(t)
		path := random.Intn(paths)
		for steps := 0; !k.done; steps++ {
			same(t, "it comes to its end", steps < 1000, true)
			k.tick(t, impl.RtoMax)
			same(t, "told at the latest", len(k.there[path]) > 0 || k.snd.Text == "", true)
			k.carryAll(t, path)
			k.read(t, 1+random.Int63n(30))
		}
		same(t, "all was read", k.got, k.stream)
	}
}

// TestStreamThatIsLost: whatever is lost, something is told again, as long as
// something is left.
func TestStreamThatIsLost(t *testing.T) {
	for paths := 1; paths <= mostPaths; paths++ {
		for _, size := range []int64{1, 5, mostCap} {
			k := newTalk(paths, 4, size, mostCap)
			k.write(t, alphabet[:50])
			for range 150 {
				k.there = make([][]seg, paths)
				k.tick(t, impl.RtoMax)
				same(t, "what Base lies in is told at the latest", slices.ContainsFunc(slices.Concat(k.there...), func(s seg) bool {
					return s.Data == 0 && s.Text != ""
				}), true)
			}
		}
	}
}

// TestWindowOfNothing: with no place at the edge one asks, and goes on when
// the answer tells of more.
func TestWindowOfNothing(t *testing.T) {
	s := impl.SndWrite(impl.SndNew(2, 3, 0).Snd, "abcd").Snd
	fillIs(t, "no place", s)
	asked := impl.SndTick(s, 1)
	same(t, "on both lines", [2]seg(asked.Segs), [2]seg{letters(0, 0, 0, ""), letters(1, 0, 0, "")})
	same(t, "not again at once", len(impl.SndTick(asked.Snd, 8).Segs), 0)
	again := impl.SndTick(asked.Snd, 9)
	same(t, "but when they are due", [2]seg(again.Segs), [2]seg{letters(0, 0, 0, ""), letters(1, 0, 0, "")})
	more := impl.SndAck(again.Snd, ack{Path: 1, Sub: 1, Edge: 4}, 10)
	fillIs(t, "there is place", more.Snd, letters(0, 1, 0, "abc"), letters(1, 1, 3, "d"))
}

// randomSndCall is about what s has, and mostly right.
func randomSndCall(random *rand.Rand, s snd, now int64) sndCall {
	path := random.Int63n(int64(len(s.Lines)))
	switch random.Intn(12) {
	case 0:
		return writeCall(randomText(random, random.Intn(40)))
	case 1:
		if random.Intn(10) == 0 {
			return closeCall()
		}
		return writeCall(randomText(random, random.Intn(300)))
	case 2, 3, 4:
		return fillCall(now)
	case 5, 6:
		return tickCall(now)
	case 7:
		return []sndCall{fillCall(-1), tickCall(most + 1), ackCall(ack{}, -1), ackCall(ack{Path: 3}, now), ackCall(ack{Data: min(s.Next+1, most)}, now)}[random.Intn(5)]
	}
	a := ack{Path: path, Sub: cutTo(s.Lines[path].Next-random.Int63n(6), 0, most), Data: s.Base, Edge: cutTo(s.Edge+random.Int63n(20)-5, 0, most)}
	if random.Intn(3) == 0 {
		a.Data += random.Int63n(s.Next - s.Base + 1)
	}
	return ackCall(a, now)
}

// TestManySndCallsAsTold goes on from each right one, with answers that no
// reader would give, too.
func TestManySndCallsAsTold(t *testing.T) {
	random := rand.New(rand.NewSource(19))
	codes, told := map[int64]int{}, 0
	for _, first := range append(rightSnds(), ticking(), answered(), impl.SndNew(4, 5, 20).Snd, impl.SndNew(3, 2, 9).Snd) {
		for range 60 {
			s, now := first, int64(random.Intn(60))
			for range 80 {
				now = min(now+random.Int63n(12), most)
				out := randomSndCall(random, s, now).asTold(t, "many", s)
				codes[out.Code]++
				told += len(out.Segs)
				if out.Code == impl.OK {
					s = out.Snd
				}
			}
		}
	}
	for _, code := range []int64{impl.OK, impl.ErrForm, impl.ErrNone, impl.ErrRange, impl.ErrFull, impl.ErrState} {
		if codes[code] < 100 {
			t.Errorf("code %d was told %d times only", code, codes[code])
		}
	}
	if told < 5000 {
		t.Errorf("only %d pieces were told", told)
	}
}

// withSpareSnd is that s with memory behind the end of each list, which is
// not to be written to either.
func withSpareSnd(s snd) snd {
	s = sndCopy(s)
	for i, l := range s.Lines {
		s.Lines[i].Out = append(slices.Clone(l.Out), sent{Sub: 901}, sent{Sub: 902}, sent{Sub: 903})[:len(l.Out)]
	}
	s.Lines = append(s.Lines, line{Next: 904}, line{Next: 905})[:len(s.Lines)]
	return s
}

// wholeSnd is s with what is behind the ends of its lists.
func wholeSnd(s snd) snd {
	s.Lines = slices.Clone(s.Lines[:cap(s.Lines)])
	for i, l := range s.Lines {
		s.Lines[i].Out = l.Out[:cap(l.Out)]
	}
	return s
}

// spoilLists write over one list each, with what is behind its end, and put
// the wanted one in its place.
func spoilLists(out *impl.SndOut, want impl.SndOut) []func() {
	lines, segs := sndCopy(want.Snd).Lines, slices.Clone(want.Segs)
	all := []func(){
		func() {
			whole := out.Snd.Lines[:cap(out.Snd.Lines)]
			out.Snd.Lines = slices.Clone(out.Snd.Lines)
			clear(whole)
		},
		func() {
			clear(out.Segs[:cap(out.Segs)])
			out.Segs = segs
		},
	}
	for i := range out.Snd.Lines {
		all = append(all, func() {
			clear(out.Snd.Lines[i].Out[:cap(out.Snd.Lines[i].Out)])
			out.Snd.Lines[i].Out = lines[i].Out
		})
	}
	return all
}

// sharesNothing spoils the lists of an answer one by one, and then those of
// the argument.
func sharesNothing(t *testing.T, c sndCall, s snd) {
	t.Helper()
	want := c.do(sndCopy(s))
	before := sndCopy(wholeSnd(s))
	out := c.do(s)
	for i := range len(spoilLists(&out, want)) {
		out = c.do(s)
		spoilLists(&out, want)[i]()
		sndIs(t, c.what+", one list spoilt", out, want)
		same(t, c.what+", with its answer the argument turned", sameSnd(wholeSnd(s), before), true)
	}
	out = c.do(s)
	arg := impl.SndOut{Snd: s}
	for _, spoil := range spoilLists(&arg, impl.SndOut{Snd: sndCopy(s)}) {
		spoil()
	}
	sndIs(t, c.what+", the argument spoilt", out, want)
}

// memoryCalls are calls that tell of a Snd, with Segs and without.
func memoryCalls(s snd) []sndCall {
	calls := []sndCall{writeCall("x"), closeCall(), fillCall(70), tickCall(0), tickCall(20), tickCall(100), tickCall(most)}
	for path := range int64(len(s.Lines)) {
		for _, data := range []int64{s.Base, min(s.Base+1, s.Next), s.Next} {
			for _, sub := range []int64{0, 3, most} {
				calls = append(calls, ackCall(ack{Path: path, Sub: sub, Data: data, Edge: s.Edge}, 100))
			}
		}
	}
	return calls
}

// TestSndMemory: no argument is changed, and an answer shares no memory with
// one, nor two lists of one answer with each other.
func TestSndMemory(t *testing.T) {
	for _, s := range append(rightSnds(), ticking(), answered()) {
		for _, c := range memoryCalls(s) {
			sharesNothing(t, c, withSpareSnd(s))
		}
		arg := withSpareSnd(s)
		before := sndCopy(wholeSnd(arg))
		impl.SndRight(arg)
		impl.SndSeg(arg, 0, sent{Data: s.Base})
		same(t, "the argument stays", sameSnd(wholeSnd(arg), before), true)
	}
}

// TestSndOfOneList hands in one list in the place of all that are out.
func TestSndOfOneList(t *testing.T) {
	s := ticking()
	out := append(s.Lines[0].Out, s.Lines[1].Out[1], sent{Sub: 903})[:2]
	for i := range s.Lines {
		s.Lines[i].Out, s.Lines[i].Next = out, 10+int64(i)
	}
	s.Lines[2].Out = out[:1]
	same(t, "right", hasSndForm(s), true)
	for _, c := range append(memoryCalls(s), tickCall(27), tickCall(28), tickCall(31)) {
		c.tells(t, "of one list", s, c.told(sndCopy(s)))
		one := c.do(s)
		for i := range len(spoilLists(&one, one)) {
			want := c.told(sndCopy(s))
			one = c.do(s)
			spoilLists(&one, want)[i]()
			sndIs(t, c.what+", one list spoilt", one, want)
		}
	}
}

// TestNewSndsAreNewMemory writes over one, and looks at another one.
func TestNewSndsAreNewMemory(t *testing.T) {
	one, other := impl.SndNew(3, 5, 9), impl.SndNew(3, 5, 9)
	for _, spoil := range spoilLists(&one, other) {
		spoil()
	}
	want := impl.SndOut{Snd: snd{Edge: 9, Open: true, Mss: 5, Lines: lines(3)}}
	sndIs(t, "the other one", other, want)
	sndIs(t, "one more", impl.SndNew(3, 5, 9), want)
}

// TestNothingIsKeptOfWriters does each call again behind others of other ones.
func TestNothingIsKeptOfWriters(t *testing.T) {
	for _, s := range rightSnds() {
		for _, c := range memoryCalls(s) {
			first := c.do(s)
			for _, other := range rightSnds() {
				for _, x := range memoryCalls(other)[:7] {
					x.do(other)
				}
			}
			sndIs(t, c.what, c.do(s), first)
		}
	}
}
