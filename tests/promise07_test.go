package tests

import (
	"math"
	"slices"
	"strings"
	"testing"

	"loop.example/g00847/impl"
)

// The tests of promise 7: who writes stays right; nothing is sent at the edge
// or behind it; what is sent is what was written there; what is to be sent,
// and sent to nobody, is told at the latest when as long went by as one waits
// at most. Here is which ones are right, and what is told of a piece; what is
// written and filled, what is answered, what is told again, and what comes of
// many calls, each has a file of its own.

type (
	snd  = impl.Snd
	line = impl.Line
	sent = impl.Sent
	ack  = impl.Ack
)

const (
	most      = impl.MaxTime
	mostPaths = 4
	mostMost  = impl.MaxOut - 1
	mostTries = 100
)

// hasSndForm is what the document says of a right one, place by place.
func hasSndForm(s snd) bool {
	if !within(s.Base, 0, most) || len(s.Text) > impl.MaxBuf || !within(behindText(s), 0, most) {
		return false
	}
	if !within(s.Edge, 0, most) || !within(s.Next, s.Base, behindText(s)) || s.Next > s.Edge {
		return false
	}
	right := within(s.Mss, 1, impl.MaxSeg) && len(s.Lines) >= 1 && len(s.Lines) <= mostPaths
	for _, l := range s.Lines {
		right = right && hasLineForm(s, l)
	}
	return right
}

func hasLineForm(s snd, l line) bool {
	right := hasClockForm(l.Clock) && within(l.Most, 1, mostMost) && within(l.Next, 0, most) && len(l.Out) <= impl.MaxOut
	for i, x := range l.Out {
		right = right && x.Sub < l.Next && within(x.Len, 0, impl.MaxSeg) && within(x.At, 0, most) && within(x.Tries, 1, mostTries)
		right = right && within(x.Data, s.Base, s.Next) && x.Data+x.Len <= s.Next
		right = right && (i == 0 || l.Out[i-1].Sub < x.Sub)
	}
	return right
}

func behindText(s snd) int64 {
	return s.Base + int64(len(s.Text))
}

// segTold is what the document says that SndSeg tells, byte by byte.
func segTold(s snd, path int64, x sent) seg {
	if !hasSndForm(s) || !within(path, 0, int64(len(s.Lines))-1) || !within(x.Len, 0, impl.MaxSeg) {
		return seg{}
	}
	if !within(x.Data, s.Base, behindText(s)) || x.Data+x.Len > behindText(s) {
		return seg{}
	}
	told := seg{Path: path, Sub: x.Sub, Data: x.Data, End: -1}
	for place := x.Data; place < x.Data+x.Len; place++ {
		told.Text += string([]byte{s.Text[place-s.Base]})
	}
	if !s.Open {
		told.End = behindText(s)
	}
	return told
}

func sndCopy(s snd) snd {
	s.Lines = slices.Clone(s.Lines)
	for i := range s.Lines {
		s.Lines[i].Out = slices.Clone(s.Lines[i].Out)
	}
	return s
}

func sndCode(code int64) impl.SndOut {
	return impl.SndOut{Code: code}
}

// sndIs holds all fields against each other; an empty list and none are the same.
func sndIs(t *testing.T, what string, got impl.SndOut, want impl.SndOut) {
	t.Helper()
	switch {
	case got.Code != want.Code:
		t.Fatalf("%s: got code %d, want %d", what, got.Code, want.Code)
	case !slices.Equal(got.Segs, want.Segs):
		t.Fatalf("%s: got %+v, want %+v", what, got.Segs, want.Segs)
	case !sameSnd(got.Snd, want.Snd):
		t.Fatalf("%s: got %+v, want %+v", what, got.Snd, want.Snd)
	}
}

func sameSnd(a snd, b snd) bool {
	sameLine := func(l line, m line) bool {
		return l.Clock == m.Clock && l.Most == m.Most && l.Next == m.Next && slices.Equal(l.Out, m.Out)
	}
	return a.Base == b.Base && a.Text == b.Text && a.Next == b.Next && a.Edge == b.Edge && a.Open == b.Open && a.Mss == b.Mss &&
		slices.EqualFunc(a.Lines, b.Lines, sameLine)
}

// sndCall is one of the calls that tell of a Snd, with what is told of it.
type sndCall struct {
	what string
	do   func(s snd) impl.SndOut
	told func(s snd) impl.SndOut
}

func writeCall(text string) sndCall {
	return sndCall{"write " + shown(text), func(s snd) impl.SndOut { return impl.SndWrite(s, text) }, func(s snd) impl.SndOut { return writeTold(s, text) }}
}

func closeCall() sndCall {
	return sndCall{"close", impl.SndClose, closeTold}
}

func fillCall(now int64) sndCall {
	return sndCall{"fill at " + shown(now), func(s snd) impl.SndOut { return impl.SndFill(s, now) }, func(s snd) impl.SndOut { return fillTold(s, now) }}
}

func ackCall(a ack, now int64) sndCall {
	return sndCall{shown(a) + " at " + shown(now), func(s snd) impl.SndOut { return impl.SndAck(s, a, now) }, func(s snd) impl.SndOut { return answerTold(s, a, now) }}
}

func tickCall(now int64) sndCall {
	return sndCall{"tick at " + shown(now), func(s snd) impl.SndOut { return impl.SndTick(s, now) }, func(s snd) impl.SndOut { return tickTold(s, now) }}
}

// tells does it twice, so that something kept would show, and looks at the
// argument, too: it is not changed.
func (c sndCall) tells(t *testing.T, what string, s snd, want impl.SndOut) {
	t.Helper()
	before := sndCopy(s)
	for range 2 {
		sndIs(t, what+": "+c.what, c.do(s), want)
	}
	if !sameSnd(s, before) {
		t.Fatalf("%s: %s changed %+v to %+v", what, c.what, before, s)
	}
}

func (c sndCall) asTold(t *testing.T, what string, s snd) impl.SndOut {
	t.Helper()
	want := c.told(s)
	c.tells(t, what, s, want)
	if want.Code == impl.OK {
		staysRight(t, what+": "+c.what, want)
	}
	return want
}

// staysRight is the promise, as far as it tells of one answer.
func staysRight(t *testing.T, what string, out impl.SndOut) {
	t.Helper()
	same(t, what+": right", impl.SndRight(out.Snd), true)
	for _, s := range out.Segs {
		behind := s.Data + int64(len(s.Text))
		same(t, what+": nothing at the edge or behind it", behind <= out.Snd.Edge, true)
		same(t, what+": what was written there", s.Text, out.Snd.Text[s.Data-out.Snd.Base:behind-out.Snd.Base])
	}
}

// sndAsTold looks at all that is told of s, right or not.
func sndAsTold(t *testing.T, what string, s snd, calls ...sndCall) {
	t.Helper()
	same(t, what+": right "+shown(s), impl.SndRight(s), hasSndForm(s))
	for _, path := range append([]int64{0, 1, 2, 3}, wrongPaths...) {
		for _, x := range []sent{{Data: s.Base}, {Sub: 7, Data: s.Next, Len: 0}, {Data: s.Base, Len: 1}} {
			same(t, what+": piece", impl.SndSeg(s, path, x), segTold(s, path, x))
		}
	}
	for _, c := range calls {
		c.asTold(t, what, s)
	}
}

// lines are so many new ones.
func lines(count int) []line {
	all := make([]line, count)
	for i := range all {
		all[i] = line{Clock: clock{Rto: 8}, Most: 2}
	}
	return all
}

// outOf are so many pieces of one byte, from a place on, one behind the other.
func outOf(count int, data int64) []sent {
	var out []sent
	for i := range int64(count) {
		out = append(out, sent{Sub: i, Data: data + i, Len: 1, Tries: 1})
	}
	return out
}

// outAt are so many pieces of the one byte at a place.
func outAt(count int, data int64) []sent {
	var out []sent
	for sub := range int64(count) {
		out = append(out, sent{Sub: sub, Data: data, Len: 1, Tries: 1})
	}
	return out
}

// rightSnds have each field at its limits, or beside them.
func rightSnds() []snd {
	slow, quick := clock{Mean: 1000, Var: 1000, Rto: 64}, clock{Rto: 4}
	busy := []line{
		{Clock: clock{Mean: 8, Var: 4, Rto: 24}, Most: 3, Next: 9, Out: []sent{{Sub: 2, Data: 20, Len: 3, At: 5, Tries: 1}, {Sub: 3, Data: 29, Len: 1, At: 8, Tries: 2}, {Sub: 8, Data: 30, Len: 0, At: 30, Tries: 100}}},
		{Clock: clock{Mean: 5, Var: 1, Rto: 9}, Most: 1, Next: 4, Out: []sent{{Sub: 0, Data: 23, Len: 6, At: 6, Tries: 1}}},
		{Clock: clock{Mean: 5, Var: 2, Rto: 13}, Most: 2, Next: 0},
		{Clock: slow, Most: 7, Next: 70, Out: []sent{{Sub: 60, Data: 20, Len: 3, At: 31, Tries: 1}, {Sub: 69, Data: 20, Len: 0, At: 31, Tries: 99}}},
	}
	full := []line{
		{Clock: quick, Most: 7, Next: 8, Out: outOf(8, 0)},
		{Clock: quick, Most: 1, Next: most, Out: []sent{{Sub: most - 1, Data: 0, Len: 16, At: most, Tries: 1}}},
		{Clock: slow, Most: 7, Next: most},
	}
	late := []line{{Clock: quick, Most: 2, Next: most - 1, Out: []sent{{Sub: 0, Data: most - 6, Len: 2, At: most, Tries: 100}, {Sub: most - 2, Data: most, Len: 0, At: 0, Tries: 1}}}, {Clock: slow, Most: 2, Next: most}}
	return []snd{
		{Open: true, Mss: 1, Lines: lines(1)},
		{Mss: 16, Lines: lines(4)},
		{Edge: 7, Open: true, Mss: 3, Lines: lines(2)},
		{Text: "abcdefghij", Edge: 7, Open: true, Mss: 3, Lines: lines(2)},
		{Text: "abcdefghij", Edge: 10, Mss: 4, Lines: lines(3)},
		{Base: 20, Text: "abcdefghijklmnop", Next: 30, Edge: 33, Open: true, Mss: 3, Lines: busy},
		{Base: 20, Text: "abcdefghij", Next: 30, Edge: 30, Mss: 16, Lines: busy},
		{Text: alphabet[:impl.MaxBuf], Next: 16, Edge: most, Open: true, Mss: 16, Lines: full},
		{Text: alphabet[:impl.MaxBuf], Next: impl.MaxBuf, Edge: impl.MaxBuf, Mss: 1, Lines: full},
		{Base: most - 6, Text: "abcdef", Next: most, Edge: most, Open: true, Mss: 5, Lines: late},
		{Base: most - 6, Text: "abcde", Next: most - 3, Edge: most - 2, Mss: 1, Lines: []line{{Clock: slow, Most: 1, Next: most - 1}, {Clock: quick, Most: 7, Next: most - 1}}},
		{Base: most, Next: most, Edge: most, Open: true, Mss: 16, Lines: lines(1)},
		{Base: most, Next: most, Edge: most, Mss: 16, Lines: []line{{Clock: quick, Most: 2, Next: 1, Out: []sent{{Data: most, Tries: 1}}}, lines(1)[0]}},
	}
}

// callsFor are calls of each kind about all edges of s.
func callsFor(s snd) []sndCall {
	calls := []sndCall{closeCall(), writeCall(""), writeCall("x"), writeCall(strings.Repeat("y", impl.MaxBuf+1)), writeCall(alphabet[:max(0, impl.MaxBuf-len(s.Text))%400]), writeCall(strings.Repeat("z", impl.MaxBytes+1))}
	for _, now := range []int64{0, 1, 13, 14, 15, 29, 38, 39, 40, 100, most - 64, most, -1, most + 1} {
		calls = append(calls, fillCall(now), tickCall(now))
		for path := range min(int64(len(s.Lines)+1), mostPaths) {
			for _, data := range []int64{0, s.Base - 1, s.Base, s.Base + 1, s.Base + 5, s.Next - 1, s.Next, s.Next + 1} {
				calls = append(calls, ackCall(ack{Path: path, Sub: 3 + path, Data: max(data, 0), Edge: cutTo(s.Edge+path-1, 0, most)}, now))
			}
		}
	}
	return calls
}

func TestRightSnds(t *testing.T) {
	for _, s := range rightSnds() {
		same(t, "right "+shown(s), hasSndForm(s), true)
		sndAsTold(t, "a right one", s, callsFor(s)...)
	}
}

func TestSndNew(t *testing.T) {
	numbers := append([]int64{-2, -1, 0, 1, 2, 3, 4, 5, 6, 15, 16, 17, 18, 256 + 1, impl.MaxList, most - 1, most, most + 1, most + 2}, farNumbers...)
	for _, paths := range numbers {
		for _, mss := range numbers {
			for _, edge := range numbers {
				want := sndCode(impl.ErrForm)
				if within(paths, 1, mostPaths) && within(mss, 1, impl.MaxSeg) && within(edge, 0, most) {
					want = impl.SndOut{Snd: snd{Edge: edge, Open: true, Mss: mss, Lines: lines(int(paths))}}
				}
				got := impl.SndNew(paths, mss, edge)
				sndIs(t, "new "+shown([]int64{paths, mss, edge}), got, want)
				same(t, "right, if it is told", impl.SndRight(got.Snd), got.Code == impl.OK)
			}
		}
	}
	written := snd{Edge: 7, Open: true, Mss: 3, Lines: []line{{Clock: impl.ClockNew(), Most: 2}, {Clock: impl.ClockNew(), Most: 2}}}
	sndIs(t, "as written down", impl.SndNew(2, 3, 7), impl.SndOut{Snd: written})
}

// sndTurned is s with one of its numbers put in the place of another.
func sndTurned(s snd, put func(s *snd, n int64), numbers ...int64) []snd {
	var all []snd
	for _, n := range append(numbers, farNumbers...) {
		x := sndCopy(s)
		put(&x, n)
		all = append(all, x)
	}
	return all
}

// sndsWithOneFieldTurned are s with each field about its limits; most of these
// are not right.
func sndsWithOneFieldTurned(s snd) []snd {
	behind := behindText(s)
	times := []int64{-2, -1, 0, 1, most - 1, most, most + 1, most + 2}
	all := sndTurned(s, func(s *snd, n int64) { s.Base = n }, append(times, s.Base-1, s.Base+1, s.Next, s.Next+1, s.Next-int64(len(s.Text)), s.Next-int64(len(s.Text))-1)...)
	all = append(all, sndTurned(s, func(s *snd, n int64) { s.Next = n }, append(times, s.Base-1, s.Base, behind, behind+1, s.Edge, s.Edge+1, s.Next-1, s.Next+1)...)...)
	all = append(all, sndTurned(s, func(s *snd, n int64) { s.Edge = n }, append(times, s.Base-1, s.Next-1, s.Next, behind-1, behind, behind+1)...)...)
	all = append(all, sndTurned(s, func(s *snd, n int64) { s.Mss = n }, -1, 0, 1, impl.MaxSeg-1, impl.MaxSeg, impl.MaxSeg+1)...)
	for i, l := range s.Lines {
		all = append(all, sndTurned(s, func(s *snd, n int64) { s.Lines[i].Most = n }, -1, 0, 1, mostMost-1, mostMost, impl.MaxOut)...)
		all = append(all, sndTurned(s, func(s *snd, n int64) { s.Lines[i].Clock.Mean = n }, -1, 0, mostTook, mostTook+1)...)
		all = append(all, sndTurned(s, func(s *snd, n int64) { s.Lines[i].Clock.Var = n }, -1, 0, mostTook, mostTook+1)...)
		all = append(all, sndTurned(s, func(s *snd, n int64) { s.Lines[i].Clock.Rto = n }, impl.RtoMin-1, impl.RtoMin, impl.RtoMax, impl.RtoMax+1)...)
		numbers := times
		if len(l.Out) > 0 {
			last := l.Out[len(l.Out)-1].Sub
			numbers = append(numbers, last-1, last, last+1)
		}
		all = append(all, sndTurned(s, func(s *snd, n int64) { s.Lines[i].Next = n }, numbers...)...)
		for k := range l.Out {
			all = append(all, sndsWithOnePieceTurned(s, i, k)...)
		}
	}
	return all
}

func sndsWithOnePieceTurned(s snd, i int, k int) []snd {
	x := s.Lines[i].Out[k]
	subs := []int64{0, most, s.Lines[i].Next - 1, s.Lines[i].Next, s.Lines[i].Next + 1}
	if k > 0 {
		before := s.Lines[i].Out[k-1].Sub
		subs = append(subs, before-1, before, before+1)
	}
	all := sndTurned(s, func(s *snd, n int64) { s.Lines[i].Out[k].Sub = max(n, 0) }, subs...)
	all = append(all, sndTurned(s, func(s *snd, n int64) { s.Lines[i].Out[k].Data = n }, s.Base-1, s.Base, s.Next-x.Len, s.Next-x.Len+1, s.Next, -1, most+1)...)
	all = append(all, sndTurned(s, func(s *snd, n int64) { s.Lines[i].Out[k].Len = n }, -1, 0, impl.MaxSeg, impl.MaxSeg+1, s.Next-x.Data, s.Next-x.Data+1)...)
	all = append(all, sndTurned(s, func(s *snd, n int64) { s.Lines[i].Out[k].At = n }, -1, 0, most, most+1)...)
	return append(all, sndTurned(s, func(s *snd, n int64) { s.Lines[i].Out[k].Tries = n }, -1, 0, 1, mostTries, mostTries+1)...)
}

func TestSndWrongInOneField(t *testing.T) {
	wrong := 0
	for _, s := range rightSnds() {
		for _, x := range sndsWithOneFieldTurned(s) {
			if hasSndForm(x) {
				sndAsTold(t, "one field turned", x, closeCall(), writeCall("x"), fillCall(40), ackCall(ack{Data: s.Base + 1, Sub: 4, Edge: s.Edge}, 40), tickCall(40))
				continue
			}
			wrong++
			neverWrites(t, "one field turned", x)
		}
	}
	if wrong < 1000 {
		t.Errorf("only %d of them are not right", wrong)
	}
}

// neverWrites looks at what is told of one that is not right: nothing but the
// fault, whatever is handed in beside it.
func neverWrites(t *testing.T, what string, s snd) {
	t.Helper()
	same(t, what+": told so by the model", hasSndForm(s), false)
	sndAsTold(t, what, s)
	for _, c := range []sndCall{closeCall(), writeCall(""), writeCall(strings.Repeat("x", impl.MaxBuf+1)), fillCall(0), fillCall(-1), tickCall(100), tickCall(most + 1),
		ackCall(ack{}, 0), ackCall(ack{Path: 3, Data: most}, 0), ackCall(ack{}, -1)} {
		c.tells(t, what, s, sndCode(impl.ErrForm))
	}
	writeCall(strings.Repeat("x", impl.MaxBytes+1)).tells(t, what, s, sndCode(impl.ErrSize))
	same(t, what, impl.SndSeg(s, 0, sent{}), seg{})
}

func TestSndNumbersNotRight(t *testing.T) {
	for what, s := range map[string]snd{
		"the zero one":        {},
		"Mss 0":               {Open: true, Lines: lines(1)},
		"Mss 17":              {Mss: 17, Lines: lines(1)},
		"no lines":            {Mss: 1},
		"no lines in a list":  {Mss: 1, Lines: []line{}},
		"five lines":          {Mss: 1, Lines: lines(5)},
		"as many as a list":   {Mss: 1, Lines: lines(impl.MaxList)},
		"more than that":      {Mss: 1, Lines: lines(impl.MaxList + 1)},
		"Text of 201":         {Text: alphabet[:impl.MaxBuf+1], Mss: 1, Lines: lines(1)},
		"Text of 8001":        {Text: strings.Repeat("x", impl.MaxBytes+1), Mss: 1, Lines: lines(1)},
		"Base below 0":        {Base: -1, Text: "a", Mss: 1, Lines: lines(1)},
		"all below 0":         {Base: -2, Text: "a", Next: -1, Edge: -1, Mss: 1, Lines: lines(1)},
		"all behind MaxTime":  {Base: most, Text: "a", Next: most, Edge: most, Mss: 1, Lines: lines(1)},
		"Base behind MaxTime": {Base: most + 1, Next: most + 1, Edge: most + 1, Mss: 1, Lines: lines(1)},
		"Edge behind MaxTime": {Base: most, Next: most, Edge: most + 1, Mss: 1, Lines: lines(1)},
		"Edge below 0":        {Edge: -1, Mss: 1, Lines: lines(1)},
		"Next below Base":     {Base: 3, Text: "a", Next: 2, Edge: 9, Mss: 1, Lines: lines(1)},
		"Next behind all":     {Base: 3, Text: "a", Next: 5, Edge: 9, Mss: 1, Lines: lines(1)},
		"Next behind Edge":    {Base: 3, Text: "abc", Next: 5, Edge: 4, Mss: 1, Lines: lines(1)},
		"Base behind Edge":    {Base: 3, Text: "abc", Next: 3, Edge: 2, Mss: 1, Lines: lines(1)},
		"the greatest":        {Base: math.MaxInt64, Text: "abc", Next: math.MaxInt64, Edge: math.MaxInt64, Mss: math.MaxInt64, Lines: lines(1)},
		"all goes over":       {Base: math.MaxInt64, Text: "abc", Next: math.MinInt64, Edge: math.MaxInt64, Mss: 1, Lines: lines(1)},
		"the least":           {Base: math.MinInt64, Next: math.MinInt64, Edge: math.MinInt64, Mss: math.MinInt64, Lines: lines(1)},
	} {
		neverWrites(t, what, s)
	}
}

// wrongLines are not right beside a Base of 4, and a Next of 10.
func wrongLines() map[string]line {
	c := clock{Rto: 8}
	of := func(out ...sent) line { return line{Clock: c, Most: 2, Next: 9, Out: out} }
	return map[string]line{
		"the zero one":              {},
		"a clock of Rto 3":          {Clock: clock{Rto: 3}, Most: 2},
		"a clock of Rto 65":         {Clock: clock{Rto: 65}, Most: 2},
		"a clock of Mean -1":        {Clock: clock{Mean: -1, Rto: 8}, Most: 2},
		"a clock of Var 1001":       {Clock: clock{Var: 1001, Rto: 8}, Most: 2},
		"Most 0":                    {Clock: c, Most: 0},
		"Most 8":                    {Clock: c, Most: 8},
		"Next -1":                   {Clock: c, Most: 1, Next: -1},
		"Next behind MaxTime":       {Clock: c, Most: 1, Next: most + 1},
		"nine":                      {Clock: c, Most: 7, Next: 9, Out: outAt(impl.MaxOut+1, 4)},
		"as many as a list":         {Clock: c, Most: 7, Next: most, Out: outOf(impl.MaxList, 4)},
		"more than that":            {Clock: c, Most: 7, Next: most, Out: outOf(impl.MaxList+1, 4)},
		"Sub at Next":               of(sent{Sub: 9, Data: 4, Len: 1, Tries: 1}),
		"Sub above Next":            of(sent{Sub: 10, Data: 4, Len: 1, Tries: 1}),
		"the second Sub at Next":    of(sent{Sub: 3, Data: 4, Tries: 1}, sent{Sub: 9, Data: 4, Tries: 1}),
		"two Subs alike":            of(sent{Sub: 3, Data: 4, Tries: 1}, sent{Sub: 3, Data: 5, Tries: 1}),
		"two alike at the end":      of(sent{Sub: 3, Data: 4, Tries: 1}, sent{Sub: 4, Data: 4, Tries: 1}, sent{Sub: 4, Data: 4, Tries: 1}),
		"not rising":                of(sent{Sub: 3, Data: 4, Tries: 1}, sent{Sub: 2, Data: 5, Tries: 1}),
		"not rising at the end":     of(sent{Sub: 3, Data: 4, Tries: 1}, sent{Sub: 5, Data: 4, Tries: 1}, sent{Sub: 4, Data: 4, Tries: 1}),
		"Len -1":                    of(sent{Data: 5, Len: -1, Tries: 1}),
		"Len 7 to behind Next":      of(sent{Data: 4, Len: 7, Tries: 1}),
		"Len 17":                    of(sent{Data: 4, Len: 17, Tries: 1}),
		"Len the least":             of(sent{Data: 4, Len: math.MinInt64, Tries: 1}),
		"Len the greatest":          of(sent{Data: 4, Len: math.MaxInt64, Tries: 1}),
		"Data ahead of Base":        of(sent{Data: 3, Len: 1, Tries: 1}),
		"Data ahead of Base, Len 0": of(sent{Data: 3, Len: 0, Tries: 1}),
		"Data at Next":              of(sent{Data: 10, Len: 1, Tries: 1}),
		"Data behind Next, Len 0":   of(sent{Data: 11, Len: 0, Tries: 1}),
		"Data one behind":           of(sent{Data: 8, Len: 3, Tries: 1}),
		"Data the greatest":         of(sent{Data: math.MaxInt64, Len: 16, Tries: 1}),
		"At -1":                     of(sent{Data: 4, At: -1, Tries: 1}),
		"At behind MaxTime":         of(sent{Data: 4, At: most + 1, Tries: 1}),
		"Tries 0":                   of(sent{Data: 4}),
		"Tries 101":                 of(sent{Data: 4, Tries: 101}),
		"the second one of Tries 0": of(sent{Data: 4, Tries: 1}, sent{Sub: 1, Data: 4}),
	}
}

func TestLinesNotRight(t *testing.T) {
	for what, l := range wrongLines() {
		s := snd{Base: 4, Text: "abcdefghijklmnopqrstuvwx", Next: 10, Edge: 12, Open: true, Mss: 2, Lines: []line{l}}
		neverWrites(t, what+", alone", s)
		s.Lines = append(lines(1), l, lines(1)[0])
		neverWrites(t, what, s)
		s.Lines = append(lines(3), l)
		neverWrites(t, what+", the last one", s)
	}
}

// TestLinesRight is of what is at the limits, and so is right.
func TestLinesRight(t *testing.T) {
	s := snd{Base: 4, Text: alphabet[:24], Next: 20, Edge: 20, Mss: 16, Lines: lines(4)}
	for what, l := range map[string]line{
		"eight":                 {Clock: clock{Rto: 4}, Most: 1, Next: 8, Out: outOf(8, 4)},
		"Most 7, Next MaxTime":  {Clock: clock{Mean: 1000, Var: 1000, Rto: 64}, Most: 7, Next: most},
		"Sub one below Next":    {Clock: clock{Rto: 4}, Most: 1, Next: 9, Out: []sent{{Sub: 8, Data: 4, Len: 16, Tries: 1}}},
		"Data at Base, Len 0":   {Clock: clock{Rto: 4}, Most: 1, Next: 9, Out: []sent{{Data: 4, Tries: 100, At: most}}},
		"Data at Next, Len 0":   {Clock: clock{Rto: 4}, Most: 1, Next: 9, Out: []sent{{Data: 20, Tries: 1}}},
		"Data at Next less Len": {Clock: clock{Rto: 4}, Most: 1, Next: 9, Out: []sent{{Data: 17, Len: 3, Tries: 1}}},
		"Data not rising":       {Clock: clock{Rto: 4}, Most: 1, Next: 9, Out: []sent{{Sub: 1, Data: 17, Len: 3, Tries: 1}, {Sub: 8, Data: 4, Len: 3, Tries: 1}}},
		"the same Data twice":   {Clock: clock{Rto: 4}, Most: 1, Next: 9, Out: []sent{{Sub: 1, Data: 17, Len: 3, Tries: 1}, {Sub: 8, Data: 17, Len: 3, Tries: 1}}},
	} {
		for at := range s.Lines {
			x := sndCopy(s)
			x.Lines[at] = l
			same(t, what, impl.SndRight(x), true)
			sndAsTold(t, what, x, callsFor(x)...)
		}
	}
}

func TestSndSeg(t *testing.T) {
	s := snd{Base: 10, Text: alphabet[:20], Next: 15, Edge: 15, Open: true, Mss: 3, Lines: lines(2)}
	for _, c := range []struct {
		what string
		path int64
		x    sent
		want seg
	}{
		{"at Base", 0, sent{Sub: 5, Data: 10, Len: 3}, seg{Sub: 5, Data: 10, Text: "abc", End: -1}},
		{"on the last path", 1, sent{Sub: 6, Data: 11, Len: 2}, seg{Path: 1, Sub: 6, Data: 11, Text: "bc", End: -1}},
		{"behind Next", 1, sent{Data: 20, Len: 2}, seg{Path: 1, Data: 20, Text: "kl", End: -1}},
		{"Len 0 at Base", 0, sent{Data: 10}, seg{Data: 10, End: -1}},
		{"Len 0 at all", 0, sent{Sub: 1, Data: 30}, seg{Sub: 1, Data: 30, End: -1}},
		{"Len 16", 0, sent{Data: 10, Len: 16}, seg{Data: 10, Text: alphabet[:16], End: -1}},
		{"to all", 0, sent{Data: 14, Len: 16}, seg{Data: 14, Text: alphabet[4:20], End: -1}},
		{"the last byte", 0, sent{Data: 29, Len: 1}, seg{Data: 29, Text: "t", End: -1}},
		{"At and Tries turn nothing", 0, sent{Sub: most, Data: 29, Len: 1, At: -5, Tries: 900}, seg{Sub: most, Data: 29, Text: "t", End: -1}},
		{"ahead of Base", 0, sent{Sub: 5, Data: 9, Len: 3}, seg{}},
		{"Len 0 ahead of Base", 0, sent{Sub: 5, Data: 9}, seg{}},
		{"one behind all", 0, sent{Data: 29, Len: 2}, seg{}},
		{"at all", 0, sent{Data: 30, Len: 1}, seg{}},
		{"Len 0 behind all", 0, sent{Data: 31}, seg{}},
		{"Len -1", 0, sent{Data: 12, Len: -1}, seg{}},
		{"Len 17", 0, sent{Data: 10, Len: 17}, seg{}},
		{"Len the greatest", 0, sent{Data: 10, Len: math.MaxInt64}, seg{}},
		{"Len the least", 0, sent{Data: 10, Len: math.MinInt64}, seg{}},
		{"Data the greatest", 0, sent{Data: math.MaxInt64, Len: 16}, seg{}},
		{"Data the least", 0, sent{Data: math.MinInt64, Len: 16}, seg{}},
		{"path -1", -1, sent{Data: 10, Len: 3}, seg{}},
		{"path one more", 2, sent{Data: 10, Len: 3}, seg{}},
		{"path 3", 3, sent{Data: 10, Len: 3}, seg{}},
		{"path the greatest", math.MaxInt64, sent{Data: 10, Len: 3}, seg{}},
	} {
		s.Open = true
		same(t, c.what, impl.SndSeg(s, c.path, c.x), c.want)
		s.Open = false
		if c.want != (seg{}) {
			c.want.End = 30
		}
		same(t, c.what+", closed", impl.SndSeg(s, c.path, c.x), c.want)
		wrong := s
		wrong.Mss = 0
		same(t, c.what+", not right", impl.SndSeg(wrong, c.path, c.x), seg{})
	}
}

// TestSndSegEach goes through all pieces about a Text of ten bytes.
func TestSndSegEach(t *testing.T) {
	for _, base := range []int64{0, 7, most - 10} {
		for _, open := range []bool{false, true} {
			s := snd{Base: base, Text: "abcdefghij", Next: base + 4, Edge: most, Open: open, Mss: 4, Lines: lines(3)}
			for data := base - 3; data < base+14; data++ {
				for size := int64(-2); size < 19; size++ {
					for path := int64(-1); path < 5; path++ {
						x := sent{Sub: data, Data: data, Len: size}
						same(t, "each", impl.SndSeg(s, path, x), segTold(s, path, x))
					}
				}
			}
		}
	}
}
