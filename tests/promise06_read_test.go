package tests

import (
	"math"
	"testing"

	"loop.example/g00847/impl"
)

// The tests of promise 6, as far as it tells of what is read, and answered.

func TestReadCases(t *testing.T) {
	type pieces = []impl.Piece
	r := rcv{Read: 10, Pieces: pieces{{At: 10, Text: "abcd"}, {At: 16, Text: "gh"}}, Edge: 19, Size: 9, Cap: 30, End: 18, Froms: []from{{Want: 3, Late: []int64{5}}, {Want: 1}}}
	want := func(read int64, l pieces, size int64, edge int64, text string) impl.RcvOut {
		after := rcvCopy(r)
		after.Read, after.Pieces, after.Size, after.Edge = read, l, size, edge
		return impl.RcvOut{Rcv: after, Text: text}
	}
	for _, n := range []int64{0, -1, -2, math.MinInt64, -1 << 32} {
		readIs(t, "n below 1", r, n, rcvCode(impl.ErrForm))
		readIs(t, "n below 1, and not right", rcv{}, n, rcvCode(impl.ErrForm))
	}
	readIs(t, "one", r, 1, want(11, pieces{{At: 11, Text: "bcd"}, {At: 16, Text: "gh"}}, 9, 20, "a"))
	readIs(t, "one less than are there", r, 3, want(13, pieces{{At: 13, Text: "d"}, {At: 16, Text: "gh"}}, 9, 22, "abc"))
	for _, n := range []int64{4, 5, 6, 7, 9, 64, 1 << 32, math.MaxInt64 - 1, math.MaxInt64} {
		readIs(t, "as many as are there", r, n, want(14, pieces{{At: 16, Text: "gh"}}, 9, 23, "abcd"))
	}
	r.Size, r.Edge = 8, 18
	readIs(t, "half of Size", r, 4, want(14, pieces{{At: 16, Text: "gh"}}, 16, 30, "abcd"))
	r.Pieces[0] = impl.Piece{At: 11, Text: "bcd"}
	for _, n := range []int64{1, 4, math.MaxInt64} {
		readIs(t, "the first byte is missing", r, n, want(10, pieces{{At: 11, Text: "bcd"}, {At: 16, Text: "gh"}}, 8, 18, ""))
	}
	r.Pieces, r.Edge = nil, 12
	readIs(t, "no byte, but Edge is more", r, 1, want(10, nil, 8, 18, ""))
}

// TestReadGrows reads each count of bytes of each Size with a Cap about the
// twice of it.
func TestReadGrows(t *testing.T) {
	for size := int64(1); size <= mostCap; size++ {
		for count := int64(0); count <= size; count++ {
			for _, most := range []int64{size, size + 1, 2*size - 1, 2 * size, 2*size + 1, mostCap} {
				if most < size || most > mostCap {
					continue
				}
				r := rcv{Read: 7, Edge: 7 + size, Size: size, Cap: most, End: -1, Froms: froms(1)}
				if count > 0 {
					r.Pieces = []impl.Piece{{At: 7, Text: alphabet[:count]}}
				}
				grown := size
				if count+count >= size {
					grown = min(size+size, most)
				}
				for _, n := range []int64{max(count, 1), count + 1, math.MaxInt64} {
					after := rcv{Read: 7 + count, Edge: 7 + count + grown, Size: grown, Cap: most, End: -1, Froms: froms(1)}
					readIs(t, "grown", r, n, impl.RcvOut{Rcv: after, Text: alphabet[:count]})
				}
			}
		}
	}
	for _, c := range [][3]int64{{4, 1, 4}, {4, 2, 8}, {5, 2, 5}, {5, 3, 10}, {1, 0, 1}, {1, 1, 2}, {33, 16, 33}, {33, 17, 64}, {32, 16, 64}} {
		r := rcv{Pieces: []impl.Piece{{At: 0, Text: alphabet[:c[0]]}}, Edge: c[0], Size: c[0], Cap: mostCap, End: -1, Froms: froms(1)}
		if c[1] == 0 {
			r.Pieces = nil
		}
		same(t, "Size "+shown(c), impl.RcvRead(r, max(c[1], 1)).Rcv.Size, c[2])
	}
}

// TestReadEdge: it goes to Read and Size, never back, and never behind MaxTime.
func TestReadEdge(t *testing.T) {
	const most = impl.MaxTime
	for _, read := range []int64{0, 1, 500, most - 130, most - 65, most - 64, most - 63, most - 12, most - 3, most - 1, most} {
		for _, size := range []int64{1, 2, 5, 6, 32, 63, 64} {
			for edge := read; edge <= min(read+size, most); edge++ {
				r := rcv{Read: read, Edge: edge, Size: size, Cap: mostCap, End: -1, Froms: froms(1)}
				count := (edge - read) / 2
				if count > 0 {
					r.Pieces = []impl.Piece{{At: read, Text: alphabet[:count]}}
				}
				for _, n := range []int64{1, 2, 64} {
					want := readTold(r, n)
					readIs(t, "edge", r, n, want)
					same(t, "not back", want.Rcv.Edge >= edge && want.Rcv.Edge <= most, true)
				}
			}
		}
	}
	r := rcv{Read: most - 3, Pieces: []impl.Piece{{At: most - 3, Text: "abc"}}, Edge: most, Size: 4, Cap: 64, End: most, Froms: froms(1)}
	readIs(t, "all to MaxTime", r, 9, impl.RcvOut{Rcv: rcv{Read: most, Edge: most, Size: 8, Cap: 64, End: most, Froms: froms(1)}, Text: "abc", Done: true})
	readIs(t, "two of it", r, 2, impl.RcvOut{Rcv: rcv{Read: most - 1, Pieces: []impl.Piece{{At: most - 1, Text: "c"}}, Edge: most, Size: 8, Cap: 64, End: most, Froms: froms(1)}, Text: "ab"})
}

func TestReadDone(t *testing.T) {
	r := rcv{Read: 4, Pieces: []impl.Piece{{At: 4, Text: "abc"}}, Edge: 8, Size: 4, Cap: 4, End: 7, Froms: froms(1)}
	for _, n := range []int64{1, 2} {
		same(t, "not yet", impl.RcvRead(r, n).Done, false)
	}
	for _, n := range []int64{3, 4, math.MaxInt64} {
		same(t, "all", impl.RcvRead(r, n).Done, true)
	}
	done := impl.RcvRead(r, 3).Rcv
	same(t, "all, and again", impl.RcvRead(done, 1).Done, true)
	r.End = 8
	same(t, "the last byte is missing", impl.RcvRead(r, 9).Done, false)
	r.End = -1
	same(t, "no end", impl.RcvRead(r, 9).Done, false)
	nothing := rcv{Edge: 4, Size: 4, Cap: 4, End: 0, Froms: froms(1)}
	same(t, "an end at 0", impl.RcvRead(nothing, 1).Done, true)
	nothing.End = -1
	same(t, "nothing at 0, and no end", impl.RcvRead(nothing, 1).Done, false)
	same(t, "beside a code", impl.RcvRead(done, 0).Done, false)
}

func TestRcvAck(t *testing.T) {
	r := rcv{Read: 10, Pieces: []impl.Piece{{At: 10, Text: "abc"}, {At: 14, Text: "e"}}, Edge: 16, Size: 6, Cap: 6, End: 15, Froms: []from{{Want: 3, Late: []int64{5}}, {Want: 7}}}
	same(t, "of the first path", impl.RcvAck(r, 0), impl.Ack{Path: 0, Sub: 3, Data: 13, Edge: 16})
	same(t, "of the second one", impl.RcvAck(r, 1), impl.Ack{Path: 1, Sub: 7, Data: 13, Edge: 16})
	for _, path := range append([]int64{2, 3}, wrongPaths...) {
		same(t, "of none", impl.RcvAck(r, path), impl.Ack{})
	}
	same(t, "held", impl.RcvHeld(r), 4)
	r.Pieces = r.Pieces[1:]
	same(t, "the byte at Read is missing", impl.RcvAck(r, 1), impl.Ack{Path: 1, Sub: 7, Data: 10, Edge: 16})
	same(t, "held without these", impl.RcvHeld(r), 1)
	r.Pieces = nil
	same(t, "no bytes", impl.RcvAck(r, 0), impl.Ack{Path: 0, Sub: 3, Data: 10, Edge: 16})
	same(t, "none held", impl.RcvHeld(r), 0)
	r.Edge = 17
	same(t, "not right", impl.RcvAck(r, 0), impl.Ack{})
	same(t, "not right", impl.RcvHeld(r), -1)
}
