package tests

import (
	"slices"
	"testing"

	"loop.example/g00847/impl"
)

// The tests of promise 8, as far as it tells of the memory of what is handed
// in and handed back.

// connCall is one of the calls that tell of a Conn.
type connCall struct {
	what string
	do   func(c conn) impl.ConnOut
}

func doCall(e event) connCall {
	return connCall{shown(e), func(c conn) impl.ConnOut { return impl.ConnDo(c, e) }}
}

func allCall(l ...event) connCall {
	return connCall{"all of " + shown(l), func(c conn) impl.ConnOut { return impl.ConnAll(c, l) }}
}

// connMemoryCalls are of each kind, with codes and without.
func connMemoryCalls(c conn) []connCall {
	events := []event{{Kind: impl.EvWrite}, {Kind: impl.EvWrite, Text: "abcdefgh"}, {Kind: impl.EvRead, N: 1}, {Kind: impl.EvRead, N: 64}, {Kind: impl.EvClose}, {Kind: impl.EvTick, N: 1}, {Kind: impl.EvTick, N: 64}, {}}
	for path := range int64(len(c.Net)) {
		for _, back := range bothDirections {
			events = append(events, event{Kind: impl.EvPut, Path: path, Back: back, Text: "abc"})
			for at := range int64(2) {
				for kind := int64(impl.EvTake); kind <= impl.EvBend; kind++ {
					events = append(events, event{Kind: kind, Path: path, Back: back, At: at, N: 1})
				}
			}
		}
	}
	calls := []connCall{allCall(), allCall(event{}), allCall(events...)}
	for _, e := range events {
		calls = append(calls, doCall(e))
	}
	return calls
}

// withSpareConn is that c with memory behind the end of each list, which is
// not to be written to either.
func withSpareConn(c conn) conn {
	return conn{Snd: withSpareSnd(c.Snd), Rcv: withSpareRcv(c.Rcv), Net: withSpare(c.Net), Now: c.Now}
}

// argumentStays looks at c, which came of withSpareConn, with what is behind
// the ends of its lists.
func argumentStays(t *testing.T, what string, c conn, right conn) {
	t.Helper()
	fresh := withSpareConn(right)
	stays := sameSnd(wholeSnd(c.Snd), wholeSnd(fresh.Snd)) && sameRcv(wholeLists(c.Rcv), wholeLists(fresh.Rcv)) && sameConn(c, right)
	same(t, what+": the argument stays", stays && spareIs(c.Net), true)
}

// connSpoilers write over one list each, with what is behind its end, and put
// the wanted one in its place.
func connSpoilers(out *impl.ConnOut, want impl.ConnOut) []func() {
	part := impl.SndOut{Snd: out.Conn.Snd}
	var all []func()
	for _, spoilOne := range spoilLists(&part, impl.SndOut{Snd: want.Conn.Snd}) {
		all = append(all, func() {
			spoilOne()
			out.Conn.Snd = part.Snd
		})
	}
	all = append(all, spoilers(&out.Conn.Rcv, want.Conn.Rcv)...)
	wanted := netCopy(want.Conn.Net)
	for i := range wanted {
		all = append(all, func() {
			spoil(out.Conn.Net[i].There)
			out.Conn.Net[i].There = wanted[i].There
		}, func() {
			spoil(out.Conn.Net[i].Back)
			out.Conn.Net[i].Back = wanted[i].Back
		})
	}
	return append(all, func() {
		whole := out.Conn.Net[:cap(out.Conn.Net)]
		out.Conn.Net = slices.Clone(out.Conn.Net)
		clear(whole)
	})
}

// memoryIsItsOwn: no argument is changed, and an answer shares no memory with
// one, nor two lists of one answer with each other.
func memoryIsItsOwn(t *testing.T, c connCall, right conn) {
	t.Helper()
	want := c.do(connCopy(right))
	arg := withSpareConn(right)
	out := c.do(arg)
	argumentStays(t, c.what, arg, right)
	for i := range len(connSpoilers(&out, want)) {
		out = c.do(arg)
		connSpoilers(&out, want)[i]()
		connIs(t, c.what+", one list spoilt", out, want)
		argumentStays(t, c.what+", one list of the answer spoilt", arg, right)
	}
	out = c.do(arg)
	spoilt := impl.ConnOut{Conn: arg}
	for _, spoilOne := range connSpoilers(&spoilt, impl.ConnOut{Conn: right}) {
		spoilOne()
	}
	connIs(t, c.what+", the argument spoilt", out, want)
}

func TestConnMemory(t *testing.T) {
	for _, right := range rightConns() {
		for _, c := range connMemoryCalls(right) {
			memoryIsItsOwn(t, c, right)
		}
		arg := withSpareConn(right)
		impl.ConnRight(arg)
		impl.Stuck(arg)
		argumentStays(t, "right, and stuck", arg, right)
	}
}

// connOfOneList has one list in the place of many.
func connOfOneList() conn {
	c := midway()
	things, late := c.Net[0].Back, []int64{6, 7, 9}
	c.Net = net{{There: things, Back: things}, {There: things[:1], Back: things[1:]}}
	c.Rcv.Froms = []from{{Want: 4, Late: late}, {Want: 5, Late: late[:2]}}
	c.Snd.Lines[0].Next = 9
	c.Snd.Lines[1].Next = 12
	c.Snd.Lines[1].Out = c.Snd.Lines[0].Out
	return c
}

// listsArePartedIn: what was one list in the argument is many in the answer.
func listsArePartedIn(t *testing.T, x connCall, c conn) {
	t.Helper()
	before := connCopy(c)
	want := x.do(connCopy(before))
	out := x.do(c)
	connIs(t, x.what, out, want)
	for i := range len(connSpoilers(&out, want)) {
		out = x.do(c)
		connSpoilers(&out, want)[i]()
		connIs(t, x.what+", one list spoilt", out, want)
		same(t, x.what+": the argument stays", sameConn(c, before), true)
	}
}

func TestConnOfOneList(t *testing.T) {
	c := connOfOneList()
	same(t, "right", hasConnForm(c), true)
	for _, x := range connMemoryCalls(c) {
		listsArePartedIn(t, x, c)
	}
}

// TestNewConnsAreNewMemory writes over one, and looks at another one.
func TestNewConnsAreNewMemory(t *testing.T) {
	want := impl.ConnNew(3, 5, 7, 9)
	one, other := impl.ConnNew(3, 5, 7, 9), impl.ConnNew(3, 5, 7, 9)
	for i := range len(connSpoilers(&one, want)) {
		one = impl.ConnNew(3, 5, 7, 9)
		connSpoilers(&one, want)[i]()
		connIs(t, "one list spoilt", one, want)
		connIs(t, "the other one", other, want)
	}
	connIs(t, "one more", impl.ConnNew(3, 5, 7, 9), want)
}

// TestNothingIsKeptOfConns does each call again behind others of other ones.
func TestNothingIsKeptOfConns(t *testing.T) {
	for _, c := range rightConns() {
		for _, x := range connMemoryCalls(c) {
			first := x.do(c)
			for _, other := range rightConns() {
				for _, y := range connMemoryCalls(other)[2:12] {
					y.do(other)
				}
			}
			connIs(t, x.what, x.do(c), first)
		}
	}
}
