package tests

import (
	"math/rand"
	"slices"
	"strings"
	"testing"

	"loop.example/g00847/impl"
)

// The tests of promise 9: in two parts what is done is done as a whole.

// allTold is what the document says that ConnAll tells: one event after the
// other, of which those that tell a code turn nothing.
func allTold(c conn, l []event) impl.ConnOut {
	switch {
	case len(l) > impl.MaxList:
		return connCode(impl.ErrSize)
	case !hasConnForm(c):
		return connCode(impl.ErrForm)
	}
	out := impl.ConnOut{Conn: connCopy(c)}
	for _, e := range l {
		one := doTold(out.Conn, e)
		if one.Code != impl.OK {
			continue
		}
		out.Conn, out.Text = one.Conn, out.Text+one.Text
		if one.Done {
			out.Done = true
		}
	}
	return out
}

// allIs does it twice, so that something kept would show, and looks at both
// arguments, too: they are not changed.
func allIs(t *testing.T, what string, c conn, l []event, want impl.ConnOut) {
	t.Helper()
	before, events := connCopy(c), slices.Clone(l)
	for range 2 {
		connIs(t, what, impl.ConnAll(c, l), want)
	}
	if !sameConn(c, before) || !slices.Equal(l, events) {
		t.Fatalf("%s: changed %s to %s, or %s to %s", what, inFull(before), inFull(c), shown(events), shown(l))
	}
}

// inParts does all of a list in parts that end at those places.
func inParts(t *testing.T, c conn, l []event, places ...int) impl.ConnOut {
	t.Helper()
	out := impl.ConnOut{Conn: c}
	from := 0
	for _, to := range append(places, len(l)) {
		part := impl.ConnAll(out.Conn, l[from:to])
		same(t, "a part", part.Code, impl.OK)
		out = impl.ConnOut{Conn: part.Conn, Text: out.Text + part.Text, Done: out.Done || part.Done}
		from = to
	}
	return out
}

// oneByOne does all of a list by ConnDo.
func oneByOne(c conn, l []event) impl.ConnOut {
	out := impl.ConnOut{Conn: c}
	for _, e := range l {
		if one := impl.ConnDo(out.Conn, e); one.Code == impl.OK {
			out = impl.ConnOut{Conn: one.Conn, Text: out.Text + one.Text, Done: out.Done || one.Done}
		}
	}
	return out
}

// randomEvents are so many that come one after the other, of which some tell a
// code, and what comes of them.
func randomEvents(t *testing.T, random *rand.Rand, c conn, count int) []event {
	t.Helper()
	x := &exchange{conn: c}
	var l []event
	for range count {
		e := randomEvent(random, x)
		l = append(l, e)
		out := impl.ConnDo(x.conn, e)
		if out.Code != impl.OK {
			continue
		}
		x.conn = out.Conn
		for _, list := range listsOf(out.Conn.Net) {
			x.flew = append(x.flew, *list...)
		}
		x.flew = x.flew[max(0, len(x.flew)-100):]
	}
	return l
}

// TestInTwoParts parts lists of anything at each place.
func TestInTwoParts(t *testing.T) {
	random := rand.New(rand.NewSource(23))
	read, done := 0, 0
	for round := range 120 {
		starts := append(rightConns(), newConn(3, 4, 20, 40), newConn(1, 9, 9, 30))
		c := starts[round%len(starts)]
		l := randomEvents(t, random, c, 20+random.Intn(60))
		want := allTold(c, l)
		allIs(t, "as a whole", c, l, want)
		for at := range len(l) + 1 {
			connIs(t, "parted at "+shown(at), inParts(t, c, l, at), want)
		}
		connIs(t, "one by one", oneByOne(c, l), want)
		read += len(want.Text)
		if want.Done {
			done++
		}
	}
	if read < 500 || done < 3 {
		t.Errorf("only %d bytes were read, and %d came to the end", read, done)
	}
}

// TestInManyParts parts a list of as many as may be.
func TestInManyParts(t *testing.T) {
	random := rand.New(rand.NewSource(24))
	for paths := int64(1); paths <= mostPaths; paths++ {
		c := newConn(paths, 7, 30, 50)
		l := randomEvents(t, random, c, impl.MaxList)
		want := allTold(c, l)
		allIs(t, "MaxList", c, l, want)
		for at := 0; at <= impl.MaxList; at += 7 {
			connIs(t, "parted at "+shown(at), inParts(t, c, l, at), want)
		}
		for range 20 {
			places := []int{random.Intn(len(l) + 1), random.Intn(len(l) + 1), random.Intn(len(l) + 1)}
			slices.Sort(places)
			connIs(t, "parted at "+shown(places), inParts(t, c, l, places...), want)
		}
		connIs(t, "one by one", oneByOne(c, l), want)
	}
}

// TestAllOfSome goes from what was written to all that was read, by hand.
func TestAllOfSome(t *testing.T) {
	c := newConn(1, 3, 6, 12)
	l := []event{
		{Kind: impl.EvWrite, Text: "abcdefgh"},        // "abc" and "def" fly
		{Kind: impl.EvClose, Path: 9, N: -1},          // closed
		{Kind: impl.EvWrite, Text: "ij"},              // ErrState
		{Kind: impl.EvTake, At: 1},                    // "def" comes
		{Kind: impl.EvTake},                           // "abc" comes
		{Kind: impl.EvRead, N: 2},                     // "ab"
		{Kind: impl.EvRead, N: 0},                     // ErrForm
		{Kind: impl.EvRead, N: 9},                     // "cdef"
		{Kind: impl.EvTake, Back: true, At: 3},        // there is room up to 18: "gh" flies
		{Kind: impl.EvTake},                           // and comes, with the end
		{Kind: impl.EvRead, N: 1},                     // "g"
		{Kind: impl.EvRead, N: 1},                     // "h", and that is all
		{Kind: impl.EvTick, N: most + 1},              // ErrRange
		{Kind: impl.EvTake, Path: 1},                  // ErrNone
		{Kind: 10},                                    // ErrForm
		{Kind: impl.EvPut, Text: alphabet[:101]},      // ErrForm
		{Kind: impl.EvBend, Back: true, N: 256},       // ErrForm
		{Kind: impl.EvPut, Text: alphabet[:100]},      // flies
		{Kind: impl.EvTick, N: 7, Text: alphabet[:1]}, // later
	}
	out := impl.ConnAll(c, l)
	same(t, "text", out.Text, "abcdefgh")
	same(t, "done, though not told last", out.Done, true)
	same(t, "code", out.Code, impl.OK)
	same(t, "the rest flies", out.Conn.Net[0].There[0], alphabet[:100])
	same(t, "Now", out.Conn.Now, 7)
	same(t, "Read", out.Conn.Rcv.Read, 8)
	allIs(t, "some", c, l, allTold(c, l))
	for at := range len(l) + 1 {
		connIs(t, "parted at "+shown(at), inParts(t, c, l, at), out)
		first := impl.ConnAll(c, l[:at])
		same(t, "text of the first part", strings.HasPrefix("abcdefgh", first.Text), true)
		same(t, "done in the first part", first.Done, at >= 12)
	}
	for at, e := range l { // each of those that tell a code turns nothing
		if one := impl.ConnDo(impl.ConnAll(c, l[:at]).Conn, e); one.Code != impl.OK {
			connIs(t, "without "+shown(e), impl.ConnAll(c, slices.Delete(slices.Clone(l), at, at+1)), out)
		}
	}
}

func TestAllOfNothing(t *testing.T) {
	for _, c := range rightConns() {
		for _, l := range [][]event{nil, {}, {{}}, {{Kind: 10}, {Kind: -1}}, make([]event, impl.MaxList), {{Kind: impl.EvTake, Path: -1}, {Kind: impl.EvTick}, {Kind: impl.EvRead, N: -1}}} {
			allIs(t, "nothing", c, l, impl.ConnOut{Conn: c})
		}
	}
}

// TestAllOfTooMany: ErrSize is named ahead of all else.
func TestAllOfTooMany(t *testing.T) {
	tick := event{Kind: impl.EvTick, N: 1}
	for _, c := range append(rightConns(), conn{}) {
		for _, count := range []int{impl.MaxList + 1, impl.MaxList + 2, 10000} {
			allIs(t, "too many", c, slices.Repeat([]event{tick}, count), connCode(impl.ErrSize))
			allIs(t, "too many of nothing", c, make([]event, count), connCode(impl.ErrSize))
		}
	}
	c := newConn(1, 1, 1, 1)
	same(t, "MaxList", impl.ConnAll(c, slices.Repeat([]event{tick}, impl.MaxList)).Conn.Now, impl.MaxList)
	same(t, "one less", impl.ConnAll(c, slices.Repeat([]event{tick}, impl.MaxList-1)).Conn.Now, impl.MaxList-1)
}

func TestAllOfOneNotRight(t *testing.T) {
	for _, c := range rightConns() {
		wrong := connTurned(c, func(c *conn) { c.Now = -1 })
		for _, l := range [][]event{nil, {{}}, {{Kind: impl.EvTick, N: 5}}, make([]event, impl.MaxList)} {
			allIs(t, "not right", wrong, l, connCode(impl.ErrForm))
		}
	}
}

// TestAllOfLongTexts: a Text is a field of its event, so that its length is
// that one's fault alone; and what is told in all may be long.
func TestAllOfLongTexts(t *testing.T) {
	c := newConn(1, 16, 64, 64)
	long := strings.Repeat("x", impl.MaxBytes+1)
	out := impl.ConnAll(c, []event{{Kind: impl.EvWrite, Text: long}, {Kind: impl.EvWrite, Text: "ab"}, {Kind: impl.EvPut, Text: long}, {Kind: impl.EvTake}, {Kind: impl.EvRead, N: 64, Text: long}})
	same(t, "text", out.Text, "ab")
	same(t, "code", out.Code, impl.OK)
}
