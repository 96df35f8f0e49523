package tests

import (
	"maps"
	"math"
	"slices"
	"strings"
	"testing"

	"loop.example/g00847/impl"
)

// The tests of promise 6: who reads stays right; never is more kept than there
// is room, and the edge never goes back; what is read is what is told that
// there is, as far as one wants. Here is which ones are right; what is taken,
// what is read, and what comes of many calls, each has a file of its own.

type (
	rcv  = impl.Rcv
	seg  = impl.Seg
	from = impl.From
)

const mostCap = 64

func within(n int64, least int64, most int64) bool {
	return n >= least && n <= most
}

func hasFromForm(f from) bool {
	right := within(f.Want, 0, impl.MaxTime) && len(f.Late) <= impl.MaxLate
	for i, sub := range f.Late {
		right = right && within(sub, f.Want+1, impl.MaxTime) && !slices.Contains(f.Late[:i], sub)
	}
	return right && slices.IsSorted(f.Late)
}

// hasRcvForm is what the document says of a right one, place by place.
func hasRcvForm(r rcv) bool {
	if !within(r.Read, 0, impl.MaxTime) || !within(r.Edge, 0, impl.MaxTime) || !within(r.Cap, 1, mostCap) || !within(r.Size, 1, r.Cap) {
		return false
	}
	if !within(r.Edge, r.Read, r.Read+r.Size) || len(r.Pieces) > impl.MaxPieces || len(r.Froms) < 1 || len(r.Froms) > 4 {
		return false
	}
	all := placesOf(r.Pieces)
	if !slices.Equal(all.pieces(), r.Pieces) { // they are no others than they should be
		return false
	}
	for place := range all {
		if !within(place, r.Read, r.Edge-1) {
			return false
		}
	}
	for _, f := range r.Froms {
		if !hasFromForm(f) {
			return false
		}
	}
	return r.End == -1 || within(r.End, all.behind(r.Read), impl.MaxTime)
}

// behind is the place behind the last byte, or low, if there is none.
func (all places) behind(low int64) int64 {
	for place := range all {
		low = max(low, place+1)
	}
	return low
}

func hasSegForm(s seg) bool {
	return within(s.Path, 0, 3) && within(s.Sub, 0, impl.MaxTime) && within(s.Data, 0, impl.MaxTime) && len(s.Text) <= impl.MaxSeg && within(s.End, -1, impl.MaxTime)
}

// ackTold, takeTold, readTold are what the document says that the calls tell,
// worked out on single places, and on Late as a set.
func ackTold(r rcv, path int64) impl.Ack {
	if !hasRcvForm(r) || !within(path, 0, int64(len(r.Froms))-1) {
		return impl.Ack{}
	}
	data := r.Read + int64(len(placesOf(r.Pieces).from(r.Read)))
	return impl.Ack{Path: path, Sub: r.Froms[path].Want, Data: data, Edge: r.Edge}
}

func takeTold(r rcv, s seg) impl.RcvOut {
	if !hasRcvForm(r) || !hasSegForm(s) {
		return rcvCode(impl.ErrForm)
	}
	if s.Path >= int64(len(r.Froms)) {
		return rcvCode(impl.ErrNone)
	}
	r = rcvCopy(r)
	all := placesOf(r.Pieces)
	for i := range len(s.Text) {
		if place := s.Data + int64(i); within(place, r.Read, r.Edge-1) {
			all.put(place, s.Text[i:i+1])
		}
	}
	r.Pieces = all.pieces()
	if r.End == -1 && s.End >= all.behind(r.Read) {
		r.End = s.End
	}
	r.Froms[s.Path] = fromTold(r.Froms[s.Path], s.Sub)
	if !hasRcvForm(r) {
		return rcvCode(impl.ErrFull)
	}
	return impl.RcvOut{Rcv: r, Ack: ackTold(r, s.Path)}
}

func fromTold(f from, sub int64) from {
	late := map[int64]bool{}
	for _, x := range f.Late {
		late[x] = true
	}
	want := f.Want
	if sub == want {
		want++
		for late[want] {
			delete(late, want)
			want++
		}
	}
	if sub > want && len(late) < impl.MaxLate {
		late[sub] = true
	}
	return from{Want: want, Late: slices.Sorted(maps.Keys(late))}
}

func readTold(r rcv, n int64) impl.RcvOut {
	if !hasRcvForm(r) || n < 1 {
		return rcvCode(impl.ErrForm)
	}
	r = rcvCopy(r)
	all := placesOf(r.Pieces)
	text := all.from(r.Read)
	if int64(len(text)) > n {
		text = text[:n]
	}
	r.Read += int64(len(text))
	r.Pieces = all.cut(r.Read).pieces()
	if float64(len(text)) >= float64(r.Size)/2 {
		r.Size = cutTo(r.Size+r.Size, 1, r.Cap)
	}
	if edge := cutTo(r.Read+r.Size, 0, impl.MaxTime); edge > r.Edge {
		r.Edge = edge
	}
	return impl.RcvOut{Rcv: r, Text: text, Done: r.Read == r.End}
}

func rcvCopy(r rcv) rcv {
	r.Pieces = slices.Clone(r.Pieces)
	r.Froms = slices.Clone(r.Froms)
	for i := range r.Froms {
		r.Froms[i].Late = slices.Clone(r.Froms[i].Late)
	}
	return r
}

func rcvCode(code int64) impl.RcvOut {
	return impl.RcvOut{Code: code}
}

// rcvIs holds all fields against each other; an empty list and none are the same.
func rcvIs(t *testing.T, what string, got impl.RcvOut, want impl.RcvOut) {
	t.Helper()
	if !sameRcvOut(got, want) {
		t.Fatalf("%s: got %s, want %s", what, shown(got), shown(want))
	}
}

func sameRcvOut(got impl.RcvOut, want impl.RcvOut) bool {
	return sameRcv(got.Rcv, want.Rcv) && got.Ack == want.Ack && got.Text == want.Text && got.Done == want.Done && got.Code == want.Code
}

func sameRcv(a rcv, b rcv) bool {
	sameFrom := func(f from, g from) bool { return f.Want == g.Want && slices.Equal(f.Late, g.Late) }
	return a.Read == b.Read && a.Edge == b.Edge && a.Size == b.Size && a.Cap == b.Cap && a.End == b.End &&
		slices.Equal(a.Pieces, b.Pieces) && slices.EqualFunc(a.Froms, b.Froms, sameFrom)
}

// takeIs and readIs do it twice, so that something kept would show.
func takeIs(t *testing.T, what string, r rcv, s seg, want impl.RcvOut) {
	t.Helper()
	twiceIs(t, what, r, s, want, func() impl.RcvOut { return impl.RcvTake(r, s) })
}

func readIs(t *testing.T, what string, r rcv, n int64, want impl.RcvOut) {
	t.Helper()
	twiceIs(t, what, r, n, want, func() impl.RcvOut { return impl.RcvRead(r, n) })
}

// twiceIs looks at the argument, too: it is not changed.
func twiceIs(t *testing.T, what string, r rcv, by any, want impl.RcvOut, do func() impl.RcvOut) {
	t.Helper()
	before := rcvCopy(r)
	for range 2 {
		if got := do(); !sameRcvOut(got, want) {
			t.Fatalf("%s: %s of %s: got %s, want %s", what, shown(by), shown(r), shown(got), shown(want))
		}
	}
	if !sameRcv(r, before) {
		t.Fatalf("%s: %s changed %s to %s", what, shown(by), shown(before), shown(r))
	}
}

// rcvAsTold looks at all that is told of r, right or not.
func rcvAsTold(t *testing.T, what string, r rcv, segs ...seg) {
	t.Helper()
	right, held := hasRcvForm(r), int64(-1)
	if right {
		held = int64(len(placesOf(r.Pieces)))
	}
	if impl.RcvRight(r) != right || impl.RcvHeld(r) != held {
		t.Fatalf("%s: %s: got %t and %d, want %t and %d", what, shown(r), impl.RcvRight(r), impl.RcvHeld(r), right, held)
	}
	for _, path := range append([]int64{0, 1, 2, 3}, wrongPaths...) {
		same(t, what+": ack", impl.RcvAck(r, path), ackTold(r, path))
	}
	for _, n := range readNumbers {
		readIs(t, what, r, n, readTold(r, n))
	}
	for _, s := range segs {
		takeIs(t, what, r, s, takeTold(r, s))
	}
}

var readNumbers = []int64{math.MinInt64, -1 << 32, -1, 0, 1, 2, 3, 4, 5, 8, 63, 64, 65, impl.MaxTime, 1 << 32, math.MaxInt64}

// froms are so many, with nothing late.
func froms(count int) []from {
	return make([]from, count)
}

// rightRcvs have each field at its limits, or beside them.
func rightRcvs() []rcv {
	type pieces = []impl.Piece
	const most = impl.MaxTime
	late := []from{{Want: 3, Late: []int64{4}}, {Want: 0, Late: []int64{1, 2, 3, 4, 5, 6, 7, 8}}, {Want: most}, {Want: most - 2, Late: []int64{most - 1, most}}}
	far := []from{{Want: 10, Late: []int64{12, 72, 73, 74, 75, 1000, most - 1, most}}}
	return []rcv{
		{Size: 1, Cap: 1, End: -1, Froms: froms(1)},
		{Edge: 1, Size: 1, Cap: 1, End: -1, Froms: froms(1)},
		{Edge: 1, Size: 1, Cap: 1, End: 0, Froms: froms(2)},
		{Edge: 64, Size: 64, Cap: 64, End: -1, Froms: froms(4)},
		{Edge: 6, Size: 6, Cap: 12, End: -1, Froms: late},
		{Read: 5, Edge: 5, Size: 6, Cap: 12, End: 5, Froms: late},
		{Read: 5, Edge: 11, Size: 6, Cap: 12, End: most, Froms: far},
		{Read: 5, Edge: 11, Pieces: pieces{{At: 5, Text: "abcdef"}}, Size: 6, Cap: 6, End: 11, Froms: late[:2]},
		{Read: 5, Edge: 11, Pieces: pieces{{At: 5, Text: "ab"}, {At: 8, Text: "d"}, {At: 10, Text: "f"}}, Size: 6, Cap: 11, End: -1, Froms: late[2:]},
		{Read: 5, Edge: 9, Pieces: pieces{{At: 6, Text: "bc"}}, Size: 7, Cap: 64, End: 8, Froms: far},
		{Read: 100, Edge: 164, Pieces: pieces{{At: 100, Text: alphabet[:64]}}, Size: 64, Cap: 64, End: 164, Froms: late},
		{Read: most, Edge: most, Size: 64, Cap: 64, End: most, Froms: late},
		{Read: most - 3, Edge: most, Pieces: pieces{{At: most - 3, Text: "abc"}}, Size: 4, Cap: 64, End: most, Froms: late},
		{Read: most - 3, Edge: most - 1, Pieces: pieces{{At: most - 2, Text: "b"}}, Size: 2, Cap: 3, End: -1, Froms: far},
	}
}

func TestRcvNew(t *testing.T) {
	numbers := append([]int64{-2, -1, 0, 1, 2, 3, 4, 5, 6, 9, 63, 64, 65, 66, 128, 256 + 1, impl.MaxList, impl.MaxTime, impl.MaxTime + 1}, farNumbers...)
	for _, paths := range numbers {
		for _, size := range numbers {
			for _, most := range numbers {
				want := rcvCode(impl.ErrForm)
				if within(paths, 1, 4) && within(most, 1, mostCap) && within(size, 1, most) {
					want = impl.RcvOut{Rcv: rcv{Edge: size, Size: size, Cap: most, End: -1, Froms: froms(int(paths))}}
				}
				got := impl.RcvNew(paths, size, most)
				rcvIs(t, "new "+shown([]int64{paths, size, most}), got, want)
				same(t, "right, if it is told", impl.RcvRight(got.Rcv), got.Code == impl.OK)
			}
		}
	}
	rcvIs(t, "as written down", impl.RcvNew(2, 6, 12), impl.RcvOut{Rcv: rcv{Edge: 6, Size: 6, Cap: 12, End: -1, Froms: []from{{}, {}}}})
}

// segsFor are pieces about all edges of r, of each path, and some that are
// not right.
func segsFor(r rcv) []seg {
	var all []seg
	for i, at := range []int64{0, r.Read - 17, r.Read - 16, r.Read - 1, r.Read, r.Read + 1, r.Edge - 16, r.Edge - 1, r.Edge, r.Edge + 1, impl.MaxTime} {
		for size := range impl.MaxSeg + 2 {
			path := int64((i + size) % 5)
			sub := int64(size)
			if path < int64(len(r.Froms)) {
				sub = r.Froms[path].Want + int64(size%4) - 1
			}
			all = append(all, seg{Path: path, Sub: sub, Data: at, Text: strings.ToUpper(alphabet[:size]), End: at + int64(i-5)})
			all = append(all, seg{Path: path, Sub: sub, Data: at, Text: strings.ToUpper(alphabet[:size]), End: -1})
		}
	}
	return all
}

func TestRightRcvs(t *testing.T) {
	for _, r := range rightRcvs() {
		same(t, "right "+shown(r), hasRcvForm(r), true)
		rcvAsTold(t, "a right one", r, segsFor(r)...)
	}
}

// fieldTurned is r with one of its numbers put in the place of another.
func fieldTurned(r rcv, put func(r *rcv, n int64), numbers []int64) []rcv {
	var all []rcv
	for _, n := range append(numbers, farNumbers...) {
		x := rcvCopy(r)
		put(&x, n)
		all = append(all, x)
	}
	return all
}

// wrongInOneField are r with each field about its limits; most of these are
// not right.
func wrongInOneField(r rcv) []rcv {
	behind := placesOf(r.Pieces).behind(r.Read)
	times := []int64{-2, -1, 0, 1, impl.MaxTime - 1, impl.MaxTime, impl.MaxTime + 1, impl.MaxTime + 2}
	all := fieldTurned(r, func(r *rcv, n int64) { r.Read = n }, append(times, r.Read-1, r.Read+1, r.Edge, r.Edge+1, r.Edge-r.Size, r.Edge-r.Size-1))
	all = append(all, fieldTurned(r, func(r *rcv, n int64) { r.Edge = n }, append(times, r.Read-1, r.Read, behind-1, behind, r.Read+r.Size, r.Read+r.Size+1))...)
	all = append(all, fieldTurned(r, func(r *rcv, n int64) { r.Size = n }, []int64{-1, 0, 1, r.Cap, r.Cap + 1, 64, 65, r.Edge - r.Read, r.Edge - r.Read - 1})...)
	all = append(all, fieldTurned(r, func(r *rcv, n int64) { r.Cap = n }, []int64{-1, 0, 1, r.Size - 1, r.Size, 63, 64, 65, 66})...)
	all = append(all, fieldTurned(r, func(r *rcv, n int64) { r.End = n }, append(times, behind-2, behind-1, behind, behind+1, r.Edge, r.Edge+1))...)
	for i, f := range r.Froms {
		numbers := append(times, f.Want-1, f.Want+1)
		if len(f.Late) > 0 {
			numbers = append(numbers, f.Late[0]-1, f.Late[0], f.Late[len(f.Late)-1])
		}
		all = append(all, fieldTurned(r, func(r *rcv, n int64) { r.Froms[i].Want = n }, numbers)...)
		for at := range f.Late {
			all = append(all, fieldTurned(r, func(r *rcv, n int64) { r.Froms[i].Late[at] = n }, append(numbers, f.Late[at]-1, f.Late[at]+1))...)
		}
		all = append(all, fieldTurned(r, func(r *rcv, n int64) { r.Froms[i].Late = append(r.Froms[i].Late, n) }, numbers)...)
	}
	for i := range r.Pieces {
		at := r.Pieces[i].At
		all = append(all, fieldTurned(r, func(r *rcv, n int64) { r.Pieces[i].At = n }, append(times, r.Read-1, r.Read, at-1, at+1, r.Edge-1, r.Edge))...)
	}
	return all
}

func TestRcvWrongInOneField(t *testing.T) {
	wrong := 0
	for _, r := range rightRcvs() {
		for _, x := range wrongInOneField(r) {
			if !hasRcvForm(x) {
				wrong++
			}
			rcvAsTold(t, "one field turned", x, seg{Sub: 1, Data: r.Read, Text: "x", End: -1}, seg{Path: 3, End: impl.MaxTime})
		}
	}
	if wrong < 1000 {
		t.Errorf("only %d of them are not right", wrong)
	}
}

// neverTaken looks at what is told of one that is not right: nothing but the
// fault, whatever is handed in beside it.
func neverTaken(t *testing.T, what string, r rcv) {
	t.Helper()
	same(t, what+": told so by the model", hasRcvForm(r), false)
	rightSeg, noPath, wrongSeg := seg{End: -1}, seg{Path: 3, End: -1}, seg{Sub: -1}
	rcvAsTold(t, what, r, rightSeg, noPath, wrongSeg)
	for _, s := range []seg{rightSeg, noPath, wrongSeg} {
		rcvIs(t, what, impl.RcvTake(r, s), rcvCode(impl.ErrForm))
	}
	rcvIs(t, what, impl.RcvRead(r, 1), rcvCode(impl.ErrForm))
	same(t, what, impl.RcvHeld(r), -1)
	same(t, what, impl.RcvAck(r, 0), impl.Ack{})
}

func TestRcvNumbersNotRight(t *testing.T) {
	const most = impl.MaxTime
	for what, r := range map[string]rcv{
		"the zero one":          {},
		"Size 0":                {Cap: 4, End: -1, Froms: froms(1)},
		"Cap 0":                 {Size: 1, End: -1, Froms: froms(1)},
		"Size and Cap 0":        {End: -1, Froms: froms(1)},
		"Size one more":         {Edge: 5, Size: 5, Cap: 4, End: -1, Froms: froms(1)},
		"Cap 65":                {Edge: 5, Size: 5, Cap: 65, End: -1, Froms: froms(1)},
		"Size and Cap 65":       {Edge: 65, Size: 65, Cap: 65, End: -1, Froms: froms(1)},
		"Size below 0":          {Size: -1, Cap: 4, End: -1, Froms: froms(1)},
		"Edge below Read":       {Read: 4, Edge: 3, Size: 2, Cap: 2, End: -1, Froms: froms(1)},
		"Edge too far":          {Read: 4, Edge: 7, Size: 2, Cap: 8, End: -1, Froms: froms(1)},
		"Read below 0":          {Read: -1, Edge: 0, Size: 2, Cap: 2, End: -1, Froms: froms(1)},
		"both below 0":          {Read: -2, Edge: -1, Size: 2, Cap: 2, End: -1, Froms: froms(1)},
		"Edge above MaxTime":    {Read: most, Edge: most + 1, Size: 2, Cap: 2, End: -1, Froms: froms(1)},
		"both above MaxTime":    {Read: most + 1, Edge: most + 1, Size: 2, Cap: 2, End: -1, Froms: froms(1)},
		"Read and Size go over": {Read: math.MaxInt64, Edge: math.MinInt64, Size: 2, Cap: 2, End: -1, Froms: froms(1)},
		"the greatest":          {Read: math.MaxInt64, Edge: math.MaxInt64, Size: math.MaxInt64, Cap: math.MaxInt64, End: math.MaxInt64, Froms: froms(1)},
		"the least":             {Read: math.MinInt64, Edge: math.MinInt64, Size: math.MinInt64, Cap: math.MinInt64, End: math.MinInt64, Froms: froms(1)},
		"End -2":                {Edge: 2, Size: 2, Cap: 2, End: -2, Froms: froms(1)},
		"End above MaxTime":     {Edge: 2, Size: 2, Cap: 2, End: most + 1, Froms: froms(1)},
		"End below Read":        {Read: 4, Edge: 6, Size: 2, Cap: 2, End: 3, Froms: froms(1)},
		"End 0 below Read":      {Read: 1, Edge: 3, Size: 2, Cap: 2, End: 0, Froms: froms(1)},
		"End at the last byte":  {Read: 4, Pieces: []impl.Piece{{At: 5, Text: "b"}}, Edge: 6, Size: 2, Cap: 2, End: 5, Froms: froms(1)},
		"End below the last":    {Read: 4, Pieces: []impl.Piece{{At: 4, Text: "a"}, {At: 6, Text: "cd"}}, Edge: 8, Size: 4, Cap: 4, End: 7, Froms: froms(1)},
		"no Froms":              {Edge: 2, Size: 2, Cap: 2, End: -1},
		"an empty list of them": {Edge: 2, Size: 2, Cap: 2, End: -1, Froms: froms(0)},
		"five":                  {Edge: 2, Size: 2, Cap: 2, End: -1, Froms: froms(5)},
		"as a list may have":    {Edge: 2, Size: 2, Cap: 2, End: -1, Froms: froms(impl.MaxList)},
		"more than that":        {Edge: 2, Size: 2, Cap: 2, End: -1, Froms: froms(impl.MaxList + 1)},
		"very many":             {Edge: 2, Size: 2, Cap: 2, End: -1, Froms: froms(1 << 16)},
	} {
		neverTaken(t, what, r)
	}
}

func TestRcvPiecesNotRight(t *testing.T) {
	type pieces = []impl.Piece
	for what, l := range map[string]pieces{
		"below Read":             {{At: 3, Text: "a"}},
		"in part below Read":     {{At: 3, Text: "abc"}},
		"the first below Read":   {{At: 2, Text: "a"}, {At: 5, Text: "b"}},
		"at Edge":                {{At: 10, Text: "a"}},
		"in part at Edge":        {{At: 8, Text: "abc"}},
		"behind Edge":            {{At: 11, Text: "a"}},
		"the last one at Edge":   {{At: 4, Text: "a"}, {At: 10, Text: "b"}},
		"one over all":           {{At: 3, Text: "abcdefgh"}},
		"an empty one":           {{At: 5}},
		"an empty one ahead":     {{At: 4}, {At: 6, Text: "a"}},
		"an empty one at Edge":   {{At: 4, Text: "a"}, {At: 10}},
		"side by side":           {{At: 4, Text: "a"}, {At: 5, Text: "b"}},
		"one over the other":     {{At: 4, Text: "abc"}, {At: 6, Text: "c"}},
		"two alike":              {{At: 4, Text: "a"}, {At: 4, Text: "a"}},
		"not rising":             {{At: 7, Text: "a"}, {At: 4, Text: "b"}},
		"below 0":                {{At: -1, Text: "a"}},
		"far away":               {{At: math.MaxInt64, Text: "ab"}},
		"far below":              {{At: math.MinInt64, Text: "ab"}},
		"more than fit in":       apart(impl.MaxPieces),
		"more than may be":       apart(impl.MaxPieces + 1),
		"more than a list has":   apart(impl.MaxList + 1),
		"so many alike":          slices.Repeat(pieces{{At: 4, Text: "a"}}, impl.MaxList+1),
		"a text that is too big": {{At: 4, Text: strings.Repeat("a", impl.MaxBytes+1)}},
	} {
		neverTaken(t, what, rcv{Read: 4, Pieces: l, Edge: 10, Size: 6, Cap: 6, End: -1, Froms: froms(2)})
	}
}

func TestRcvFromsNotRight(t *testing.T) {
	const most = impl.MaxTime
	for what, f := range map[string]from{
		"Want below 0":             {Want: -1},
		"Want above MaxTime":       {Want: most + 1},
		"the least Want":           {Want: math.MinInt64},
		"the greatest Want":        {Want: math.MaxInt64},
		"Late at Want":             {Want: 3, Late: []int64{3}},
		"Late below Want":          {Want: 3, Late: []int64{2}},
		"the second one below":     {Want: 3, Late: []int64{5, 2}},
		"Late at Want 0":           {Want: 0, Late: []int64{0}},
		"Late below 0":             {Want: 0, Late: []int64{-1}},
		"Late above MaxTime":       {Want: 3, Late: []int64{4, most + 1}},
		"Late above Want MaxTime":  {Want: most, Late: []int64{most + 1}},
		"two alike":                {Want: 3, Late: []int64{5, 5}},
		"two alike at the end":     {Want: 3, Late: []int64{5, 6, 7, 7}},
		"falling":                  {Want: 3, Late: []int64{6, 5}},
		"falling at the end":       {Want: 3, Late: []int64{5, 7, 6}},
		"nine":                     {Want: 3, Late: []int64{4, 5, 6, 7, 8, 9, 10, 11, 12}},
		"nine with one between":    {Want: 3, Late: []int64{5, 6, 7, 8, 9, 10, 11, 12, 13}},
		"as many as a list has":    {Want: 3, Late: make([]int64, impl.MaxList)},
		"more than that":           {Want: 3, Late: make([]int64, impl.MaxList+1)},
		"the greatest and least":   {Want: 3, Late: []int64{math.MaxInt64, math.MinInt64}},
		"alike when cut to 32 bit": {Want: 3, Late: []int64{5, 1<<32 + 6}},
	} {
		r := rcv{Edge: 6, Size: 6, Cap: 6, End: -1, Froms: []from{{}, f, {}}}
		neverTaken(t, what, r)
		r.Froms = []from{f}
		neverTaken(t, what+", alone", r)
		r.Froms = []from{{Want: 1}, {}, {}, f}
		neverTaken(t, what+", the last one", r)
	}
}
