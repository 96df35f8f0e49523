package tests

import (
	"slices"
	"strings"
	"testing"

	"loop.example/g00847/impl"
)

// The tests of promise 6, as far as it tells of what is taken.

// TestTakeFaultsInOrder hands in more than one thing that is not right.
func TestTakeFaultsInOrder(t *testing.T) {
	r := rcv{Edge: 6, Size: 6, Cap: 6, End: 2, Froms: froms(2)}
	full := seg{Data: 2, Text: "x", End: -1} // there is no byte at the end
	takeIs(t, "full", r, full, rcvCode(impl.ErrFull))
	for _, full.Path = range []int64{2, 3} {
		takeIs(t, "no path, and full", r, full, rcvCode(impl.ErrNone))
	}
	for _, right := range []seg{{End: -1}, {Path: 1, Sub: 7, Data: 1, Text: "a", End: 3}, {Path: 2, End: -1}, {Path: 3, Data: 2, Text: "x", End: 9}} {
		for _, s := range wrongSegsOf(right) {
			takeIs(t, "a piece that is not right", r, s, rcvCode(impl.ErrForm))
			takeIs(t, "nor the one who reads", rcv{}, s, rcvCode(impl.ErrForm))
		}
		takeIs(t, "the one who reads alone", rcv{}, right, rcvCode(impl.ErrForm))
	}
}

// wrongSegsOf are not right in one field.
func wrongSegsOf(s seg) []seg {
	var all []seg
	x := s
	for _, x.Path = range wrongPaths {
		all = append(all, x)
	}
	x = s
	for _, x.Sub = range wrongTimes {
		all = append(all, x)
	}
	x = s
	for _, x.Data = range wrongTimes {
		all = append(all, x)
	}
	x = s
	for _, x.End = range wrongEnds {
		all = append(all, x)
	}
	x = s
	for _, size := range []int{impl.MaxSeg + 1, 64, 256, impl.MaxBytes, impl.MaxBytes + 1} {
		x.Text = strings.Repeat("x", size)
		all = append(all, x)
	}
	return all
}

func TestNoSuchFrom(t *testing.T) {
	for count := 1; count <= 4; count++ {
		r := impl.RcvNew(int64(count), 6, 12).Rcv
		for path := range int64(4) {
			s := seg{Path: path, Text: "ab", End: -1}
			want := rcvCode(impl.ErrNone)
			if path < int64(count) {
				after := rcvCopy(r)
				after.Pieces, after.Froms[path].Want = []impl.Piece{{At: 0, Text: "ab"}}, 1
				want = impl.RcvOut{Rcv: after, Ack: impl.Ack{Path: path, Sub: 1, Data: 2, Edge: 6}}
			}
			takeIs(t, "path", r, s, want)
		}
	}
}

// TestTakeText puts texts about a window of 6 places, from 10 on, in which
// two stand already.
func TestTakeText(t *testing.T) {
	type pieces = []impl.Piece
	there := pieces{{At: 11, Text: "b"}, {At: 13, Text: "d"}}
	for _, c := range []struct {
		what string
		at   int64
		text string
		want pieces
		data int64
	}{
		{"an empty one at Read", 10, "", there, 10},
		{"an empty one below", 3, "", there, 10},
		{"an empty one at Edge", 16, "", there, 10},
		{"an empty one behind", 400, "", there, 10},
		{"wholly below Read", 7, "XYZ", there, 10},
		{"far below Read", 0, "XYZ", there, 10},
		{"in part below Read", 8, "XYA", pieces{{At: 10, Text: "Ab"}, {At: 13, Text: "d"}}, 12},
		{"from below Read over what is there", 9, "XABC", pieces{{At: 10, Text: "AbCd"}}, 14},
		{"from below Read to behind Edge", 9, "XABCDEFG", pieces{{At: 10, Text: "AbCdEF"}}, 16},
		{"16 bytes from below Read to behind Edge", 5, "12345ABCDEFGHIJK", pieces{{At: 10, Text: "AbCdEF"}}, 16},
		{"at Read", 10, "A", pieces{{At: 10, Text: "Ab"}, {At: 13, Text: "d"}}, 12},
		{"all there is room for", 10, "ABCDEF", pieces{{At: 10, Text: "AbCdEF"}}, 16},
		{"one more than there is room for", 10, "ABCDEFG", pieces{{At: 10, Text: "AbCdEF"}}, 16},
		{"that is there", 11, "b", there, 10},
		{"others at its place", 11, "B", there, 10},
		{"between", 12, "C", pieces{{At: 11, Text: "bCd"}}, 10},
		{"the last place", 15, "F", pieces{{At: 11, Text: "b"}, {At: 13, Text: "d"}, {At: 15, Text: "F"}}, 10},
		{"in part at Edge", 15, "FG", pieces{{At: 11, Text: "b"}, {At: 13, Text: "d"}, {At: 15, Text: "F"}}, 10},
		{"to Edge", 14, "EF", pieces{{At: 11, Text: "b"}, {At: 13, Text: "dEF"}}, 10},
		{"to behind Edge", 14, "EFGH", pieces{{At: 11, Text: "b"}, {At: 13, Text: "dEF"}}, 10},
		{"at Edge", 16, "G", there, 10},
		{"behind Edge", 17, "H", there, 10},
		{"at MaxTime", impl.MaxTime, "HIJ", there, 10},
	} {
		r := rcv{Read: 10, Pieces: there, Edge: 16, Size: 6, Cap: 6, End: -1, Froms: []from{{Want: 3}, {Want: 5}}}
		after := rcvCopy(r)
		after.Pieces, after.Froms[1].Want = c.want, 6
		takeIs(t, c.what, r, seg{Path: 1, Sub: 5, Data: c.at, Text: c.text, End: -1}, impl.RcvOut{Rcv: after, Ack: impl.Ack{Path: 1, Sub: 6, Data: c.data, Edge: 16}})
	}
}

// TestTakeInEach goes through all ways in which bytes lie in ten places, and
// all texts of up to ten bytes about them.
func TestTakeInEach(t *testing.T) {
	for bits := range 1 << 10 {
		r := rcv{Pieces: piecesOfBits(bits), Edge: 10, Size: 10, Cap: 10, End: -1, Froms: froms(1)}
		for at := range int64(12) {
			size := (int(at)*7 + bits) % 11
			takeIs(t, "put", r, seg{Data: at, Text: "ABCDEFGHIJ"[:size], End: -1}, takeTold(r, seg{Data: at, Text: "ABCDEFGHIJ"[:size], End: -1}))
		}
	}
}

// TestTakeWhereMostPiecesAre has as many as a room of 64 places can: what is
// put in among these is never too much for PiecePut.
func TestTakeWhereMostPiecesAre(t *testing.T) {
	r := rcv{Pieces: apart(mostCap / 2), Edge: mostCap, Size: mostCap, Cap: mostCap, End: -1, Froms: froms(1)}
	same(t, "right", impl.RcvRight(r), true)
	same(t, "held", impl.RcvHeld(r), mostCap/2)
	for at := range int64(mostCap + 2) {
		for size := range impl.MaxSeg + 1 {
			s := seg{Data: at, Text: alphabet[:size], End: -1}
			takeIs(t, "among most", r, s, takeTold(r, s))
			same(t, "taken", impl.RcvTake(r, s).Code, impl.OK)
		}
	}
	for shift := range int64(2) { // no byte at Read, too
		r.Read, r.Edge = impl.MaxTime-mostCap-shift, impl.MaxTime-shift
		for i := range r.Pieces {
			r.Pieces[i].At = r.Read + int64(2*i+1)
		}
		for at := r.Read - impl.MaxSeg; at <= impl.MaxTime; at++ {
			s := seg{Data: at, Text: alphabet[:impl.MaxSeg], End: impl.MaxTime}
			takeIs(t, "among most near MaxTime", r, s, takeTold(r, s))
		}
	}
}

// TestTakeEnd is of an end that is told, where none is there, and where one is.
func TestTakeEnd(t *testing.T) {
	type pieces = []impl.Piece
	empty := rcv{Read: 10, Edge: 16, Size: 6, Cap: 6, End: -1, Froms: froms(1)}
	some, known := empty, empty
	some.Pieces = pieces{{At: 10, Text: "a"}, {At: 13, Text: "de"}}
	known.End = 14
	for _, c := range []struct {
		what string
		r    rcv
		s    seg
		end  int64
	}{
		{"none told", empty, seg{End: -1}, -1},
		{"none told, one there", known, seg{End: -1}, 14},
		{"0 below Read", empty, seg{End: 0}, -1},
		{"one below Read", empty, seg{End: 9}, -1},
		{"at Read", empty, seg{End: 10}, 10},
		{"one above Read", empty, seg{End: 11}, 11},
		{"at Edge", empty, seg{End: 16}, 16},
		{"behind Edge", empty, seg{End: 17}, 17},
		{"at MaxTime", empty, seg{End: impl.MaxTime}, impl.MaxTime},
		{"at Read with bytes", some, seg{End: 10}, -1},
		{"where a byte is missing", some, seg{End: 11}, -1},
		{"at the last byte", some, seg{End: 14}, -1},
		{"behind the last byte", some, seg{End: 15}, 15},
		{"one more", some, seg{End: 16}, 16},
		{"below the byte that comes with it", empty, seg{Data: 12, Text: "c", End: 12}, -1},
		{"behind the byte that comes with it", empty, seg{Data: 12, Text: "c", End: 13}, 13},
		{"behind what is left of its text", empty, seg{Data: 14, Text: "efgh", End: 16}, 16},
		{"below what is left of its text", empty, seg{Data: 14, Text: "efgh", End: 15}, -1},
		{"below Read with a text below it", empty, seg{Data: 5, Text: "abc", End: 8}, -1},
		{"at Read with a text below it", empty, seg{Data: 7, Text: "abc", End: 10}, 10},
		{"below a text behind Edge", empty, seg{Data: 16, Text: "abc", End: 16}, 16},
		{"another one, less", known, seg{End: 12}, 14},
		{"another one, more", known, seg{End: 15}, 14},
		{"the same", known, seg{End: 14}, 14},
		{"another one with bytes up to the first", known, seg{Data: 12, Text: "cd", End: 16}, 14},
	} {
		want := takeTold(c.r, c.s)
		same(t, c.what, want.Rcv.End, c.end)
		same(t, c.what, impl.RcvTake(c.r, c.s).Rcv.End, c.end)
		takeIs(t, c.what, c.r, c.s, want)
	}
}

// TestTakeBehindTheEnd: where an end is there, no byte may come at it.
func TestTakeBehindTheEnd(t *testing.T) {
	r := rcv{Read: 10, Pieces: []impl.Piece{{At: 11, Text: "b"}}, Edge: 16, Size: 6, Cap: 6, End: 14, Froms: froms(2)}
	for at := int64(0); at < 20; at++ {
		for size := range impl.MaxSeg + 1 {
			s := seg{Data: at, Text: strings.Repeat("x", size), End: -1}
			first, last := max(at, 10), min(at+int64(size), 16) // what is put in of it
			code := int64(impl.OK)
			if first < last && last > 14 {
				code = impl.ErrFull
			}
			for _, s.End = range []int64{-1, 14, 20} {
				same(t, "code of "+shown(s), impl.RcvTake(r, s).Code, code)
				takeIs(t, "with an end there", r, s, takeTold(r, s))
			}
		}
	}
	takeIs(t, "nothing of it is told", r, seg{Path: 1, Sub: 3, Data: 13, Text: "xy", End: -1}, rcvCode(impl.ErrFull))
}

func TestTakeSub(t *testing.T) {
	type subs = []int64
	const most = impl.MaxTime
	eight := subs{7, 8, 9, 10, 11, 12, 13, 14}
	for _, c := range []struct {
		what string
		f    from
		sub  int64
		want from
	}{
		{"Want", from{Want: 5}, 5, from{Want: 6}},
		{"Want 0", from{}, 0, from{Want: 1}},
		{"below Want", from{Want: 5}, 4, from{Want: 5}},
		{"0 below Want", from{Want: 5, Late: subs{7}}, 0, from{Want: 5, Late: subs{7}}},
		{"above Want", from{Want: 5}, 6, from{Want: 5, Late: subs{6}}},
		{"far above Want", from{Want: 5}, most, from{Want: 5, Late: subs{most}}},
		{"63 above", from{Want: 5}, 68, from{Want: 5, Late: subs{68}}},
		{"64 above", from{Want: 5}, 69, from{Want: 5, Late: subs{69}}},
		{"65 above", from{Want: 5}, 70, from{Want: 5, Late: subs{70}}},
		{"Want with the next one late", from{Want: 5, Late: subs{6}}, 5, from{Want: 7}},
		{"Want with the one behind that late", from{Want: 5, Late: subs{7}}, 5, from{Want: 6, Late: subs{7}}},
		{"Want with some late, and a gap", from{Want: 5, Late: subs{6, 7, 9, 10}}, 5, from{Want: 8, Late: subs{9, 10}}},
		{"Want with all late", from{Want: 5, Late: subs{6, 7, 8, 9, 10, 11, 12, 13}}, 5, from{Want: 14}},
		{"Want with as many behind a gap", from{Want: 5, Late: eight}, 5, from{Want: 6, Late: eight}},
		{"into the gap of as many", from{Want: 5, Late: eight}, 6, from{Want: 5, Late: eight}},
		{"among as many", from{Want: 5, Late: eight}, 10, from{Want: 5, Late: eight}},
		{"behind as many", from{Want: 5, Late: eight}, 15, from{Want: 5, Late: eight}},
		{"far behind as many", from{Want: 5, Late: eight}, most, from{Want: 5, Late: eight}},
		{"the eighth ahead", from{Want: 5, Late: eight[1:]}, 7, from{Want: 5, Late: eight}},
		{"the eighth behind", from{Want: 5, Late: eight[:7]}, 14, from{Want: 5, Late: eight}},
		{"the eighth between", from{Want: 5, Late: subs{7, 8, 9, 11, 12, 13, 14}}, 10, from{Want: 5, Late: eight}},
		{"late already", from{Want: 5, Late: subs{7, 9}}, 9, from{Want: 5, Late: subs{7, 9}}},
		{"far, late already", from{Want: 5, Late: subs{7, 900}}, 900, from{Want: 5, Late: subs{7, 900}}},
		{"far ones in their order", from{Want: 5, Late: subs{100, 300}}, 200, from{Want: 5, Late: subs{100, 200, 300}}},
		{"a near one ahead of far ones", from{Want: 5, Late: subs{100, 300}}, 68, from{Want: 5, Late: subs{68, 100, 300}}},
		{"far ones that come near", from{Want: 5, Late: subs{6, 7, 69, 70, 71, 72, most}}, 5, from{Want: 8, Late: subs{69, 70, 71, 72, most}}},
		{"a far one the last of eight", from{Want: 0, Late: subs{1, 2, 3, 4, 5, 6, 7, 71}}, 0, from{Want: 8, Late: subs{71}}},
		{"Want up to MaxTime", from{Want: most - 2, Late: subs{most - 1}}, most - 2, from{Want: most}},
		{"Want to one ahead of MaxTime", from{Want: most - 2, Late: subs{most}}, most - 2, from{Want: most - 1, Late: subs{most}}},
		{"below Want MaxTime", from{Want: most}, most - 1, from{Want: most}},
		{"MaxTime above Want", from{Want: most - 1}, most, from{Want: most - 1, Late: subs{most}}},
	} {
		others := []from{{Want: 4, Late: subs{5}}, {}, {Want: 40, Late: subs{45}}}
		for path := range int64(4) {
			r := rcv{Edge: 6, Size: 6, Cap: 6, End: -1, Froms: slices.Insert(slices.Clone(others), int(path), c.f)}
			after := rcvCopy(r)
			after.Froms[path] = c.want
			takeIs(t, c.what, r, seg{Path: path, Sub: c.sub, End: -1}, impl.RcvOut{Rcv: after, Ack: impl.Ack{Path: path, Sub: c.want.Want, Edge: 6}})
		}
	}
}

// TestTakeSubBehindMaxTime: a Want behind MaxTime would be no time.
func TestTakeSubBehindMaxTime(t *testing.T) {
	const most = impl.MaxTime
	for _, f := range []from{{Want: most}, {Want: most - 1, Late: []int64{most}}, {Want: most - 2, Late: []int64{most - 1, most}}} {
		r := rcv{Edge: 6, Size: 6, Cap: 6, End: -1, Froms: []from{f, {}}}
		takeIs(t, "Want behind MaxTime", r, seg{Sub: f.Want, Text: "a", End: 9}, rcvCode(impl.ErrFull))
		same(t, "on the other path", impl.RcvTake(r, seg{Path: 1, Text: "a", End: 9}).Code, impl.OK)
		same(t, "below Want", impl.RcvTake(r, seg{Sub: f.Want - 1, Text: "a", End: 9}).Code, impl.OK)
	}
}

// TestTakeEachSub goes through all that can be late in eight places above
// Want, with far ones behind them, and all Subs about these.
func TestTakeEachSub(t *testing.T) {
	for _, want := range []int64{0, 1, 77, impl.MaxTime - 70, impl.MaxTime - 9, impl.MaxTime - 8} {
		for bits := range 1 << 8 {
			f := from{Want: want}
			for k := range int64(8) {
				if bits>>k&1 == 1 {
					f.Late = append(f.Late, want+1+k)
				}
			}
			for _, far := range []int64{62, 63, 64, 65, 66, 70, 500} {
				if len(f.Late) < impl.MaxLate-bits%2 && want+far <= impl.MaxTime {
					f.Late = append(f.Late, want+far)
				}
			}
			r := rcv{Edge: 6, Size: 6, Cap: 6, End: -1, Froms: []from{{}, f}}
			for _, ahead := range []int64{-1, 0, 1, 2, 3, 5, 8, 9, 61, 62, 63, 64, 65, 66, 71, 400, 501} {
				s := seg{Path: 1, Sub: want + ahead, End: -1}
				takeIs(t, "each", r, s, takeTold(r, s))
			}
		}
	}
}
