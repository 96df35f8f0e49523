package tests

import (
	"math"
	"math/rand"
	"slices"
	"sort"
	"strings"
	"testing"

	"loop.example/g00847/impl"
)

// The tests of promise 3: bytes that are put in are there, those that there
// were stay, and nothing else is there; put in again they turn nothing; two
// texts that are one stream come to the same in whichever order.

// mostPut is how many bytes PiecePut takes at once.
const mostPut = 200

var alphabet = strings.Repeat("abcdefghijklmnopqrstuvwxyz", 40)

func piecesAre(t *testing.T, what string, got impl.PiecesOut, want ...impl.Piece) {
	t.Helper()
	if got.Code != impl.OK || !slices.Equal(got.Pieces, want) {
		t.Fatalf("%s: got %s, want %s", what, shown(got), shown(want))
	}
}

// piecesCode looks at what stands beside the code, too.
func piecesCode(t *testing.T, what string, got impl.PiecesOut, want int64) {
	t.Helper()
	if got.Code != want || len(got.Pieces) != 0 {
		t.Fatalf("%s: got %s, want code %d alone", what, shown(got), want)
	}
}

// mustPut puts in what is to fit.
func mustPut(t *testing.T, l []impl.Piece, at int64, text string) []impl.Piece {
	t.Helper()
	out := impl.PiecePut(l, at, text)
	if out.Code != impl.OK {
		t.Fatalf("put of %s at %d in %s: code %d", shown(text), at, shown(l), out.Code)
	}
	return out.Pieces
}

// apart is count pieces of one byte, with one place between.
func apart(count int) []impl.Piece {
	l := make([]impl.Piece, count)
	for i := range l {
		l[i] = impl.Piece{At: int64(2 * i), Text: alphabet[i : i+1]}
	}
	return l
}

// places is the document's own picture of pieces: which byte is at which place.
type places map[int64]byte

func placesOf(l []impl.Piece) places {
	all := places{}
	for _, p := range l {
		for i := range len(p.Text) {
			all[p.At+int64(i)] = p.Text[i]
		}
	}
	return all
}

// put adds bytes where there are none.
func (all places) put(at int64, text string) {
	for i := range len(text) {
		place := at + int64(i)
		if _, there := all[place]; !there {
			all[place] = text[i]
		}
	}
}

// pieces are the places that stand side by side, each such run as one piece.
func (all places) pieces() []impl.Piece {
	var order []int64
	for place := range all {
		order = append(order, place)
	}
	sort.Slice(order, func(i, j int) bool { return order[i] < order[j] })
	var l []impl.Piece
	for i, place := range order {
		if i == 0 || order[i-1] != place-1 {
			l = append(l, impl.Piece{At: place})
		}
		l[len(l)-1].Text += string([]byte{all[place]})
	}
	return l
}

// from is what is there from a place on as far as none is missing.
func (all places) from(at int64) string {
	var text strings.Builder
	for place := at; ; place++ {
		b, there := all[place]
		if !there {
			return text.String()
		}
		text.WriteByte(b)
	}
}

// cut is what is not ahead of a place.
func (all places) cut(at int64) places {
	left := places{}
	for place, b := range all {
		if place >= at {
			left[place] = b
		}
	}
	return left
}

// looksLike holds all that the program tells of l against the places.
func looksLike(t *testing.T, l []impl.Piece, all places, low int64, high int64) {
	t.Helper()
	if !slices.Equal(l, all.pieces()) {
		t.Fatalf("pieces: got %s, want %s", shown(l), shown(all.pieces()))
	}
	same(t, "right", impl.PiecesRight(l), true)
	same(t, "bytes", impl.PieceBytes(l), int64(len(all)))
	for at := low; at <= high; at++ {
		_, there := all[at]
		same(t, "has", impl.PieceHas(l, at), there)
		same(t, "from", impl.PieceFrom(l, at), all.from(at))
		piecesAre(t, "cut", impl.PieceCut(l, at), all.cut(at).pieces()...)
	}
}

func TestNoPieces(t *testing.T) {
	for _, none := range [][]impl.Piece{nil, {}} {
		same(t, "right", impl.PiecesRight(none), true)
		same(t, "bytes", impl.PieceBytes(none), 0)
		for _, at := range []int64{0, 1, -1, impl.MaxTime, impl.MaxTime + 1, math.MinInt64, math.MaxInt64} {
			same(t, "from", impl.PieceFrom(none, at), "")
			same(t, "has", impl.PieceHas(none, at), false)
			piecesAre(t, "cut", impl.PieceCut(none, at))
		}
		piecesAre(t, "nothing put", impl.PiecePut(none, 7, ""))
		piecesAre(t, "put", impl.PiecePut(none, 7, "ab"), impl.Piece{At: 7, Text: "ab"})
		piecesAre(t, "put at 0", impl.PiecePut(none, 0, "\x00"), impl.Piece{At: 0, Text: "\x00"})
	}
}

func TestPutCases(t *testing.T) {
	two := []impl.Piece{{At: 4, Text: "abc"}, {At: 9, Text: "xyz"}}
	type pieces = []impl.Piece
	for _, c := range []struct {
		what string
		at   int64
		text string
		want pieces
	}{
		{"an empty one in a piece", 5, "", two},
		{"an empty one where nothing is", 7, "", two},
		{"an empty one behind all", 100, "", two},
		{"ahead of all", 0, "AB", pieces{{At: 0, Text: "AB"}, {At: 4, Text: "abc"}, {At: 9, Text: "xyz"}}},
		{"one place ahead of the first", 2, "A", pieces{{At: 2, Text: "A"}, {At: 4, Text: "abc"}, {At: 9, Text: "xyz"}}},
		{"beside the first", 2, "AB", pieces{{At: 2, Text: "ABabc"}, {At: 9, Text: "xyz"}}},
		{"that ends in the first", 2, "ABCD", pieces{{At: 2, Text: "ABabc"}, {At: 9, Text: "xyz"}}},
		{"that ends with the first", 2, "ABCDE", pieces{{At: 2, Text: "ABabc"}, {At: 9, Text: "xyz"}}},
		{"that covers the first", 3, "ABCDE", pieces{{At: 3, Text: "AabcE"}, {At: 9, Text: "xyz"}}},
		{"that is the first", 4, "abc", two},
		{"that is where the first is", 4, "ABC", two},
		{"that lies in the first", 5, "B", two},
		{"that begins the first", 4, "AB", two},
		{"that ends the first", 5, "BC", two},
		{"that begins in the first", 6, "CD", pieces{{At: 4, Text: "abcD"}, {At: 9, Text: "xyz"}}},
		{"that begins with the first", 4, "ABCD", pieces{{At: 4, Text: "abcD"}, {At: 9, Text: "xyz"}}},
		{"behind the first", 7, "D", pieces{{At: 4, Text: "abcD"}, {At: 9, Text: "xyz"}}},
		{"beside the second", 8, "E", pieces{{At: 4, Text: "abc"}, {At: 8, Text: "Exyz"}}},
		{"beside both", 7, "DE", pieces{{At: 4, Text: "abcDExyz"}}},
		{"that begins in the first and ends in the second", 5, "BCDEXY", pieces{{At: 4, Text: "abcDExyz"}}},
		{"that covers the second", 8, "EXYZF", pieces{{At: 4, Text: "abc"}, {At: 8, Text: "ExyzF"}}},
		{"that covers both", 3, "@ABCDEXYZF", pieces{{At: 3, Text: "@abcDExyzF"}}},
		{"that begins in the first and covers the second", 6, "CDEXYZFG", pieces{{At: 4, Text: "abcDExyzFG"}}},
		{"behind the second", 12, "F", pieces{{At: 4, Text: "abc"}, {At: 9, Text: "xyzF"}}},
		{"one place behind the second", 13, "F", pieces{{At: 4, Text: "abc"}, {At: 9, Text: "xyz"}, {At: 13, Text: "F"}}},
		{"far behind", 500, "FG", pieces{{At: 4, Text: "abc"}, {At: 9, Text: "xyz"}, {At: 500, Text: "FG"}}},
	} {
		got := impl.PiecePut(two, c.at, c.text)
		piecesAre(t, c.what, got, c.want...)
		piecesAre(t, c.what+", again", impl.PiecePut(got.Pieces, c.at, c.text), c.want...)
		piecesAre(t, c.what+", again with other bytes", impl.PiecePut(got.Pieces, c.at, strings.ToLower(c.text)), c.want...)
	}
}

func TestPutBetweenWithPlacesLeft(t *testing.T) {
	l := []impl.Piece{{At: 0, Text: "a"}, {At: 4, Text: "b"}}
	piecesAre(t, "one left on both sides", impl.PiecePut(l, 2, "M"),
		impl.Piece{At: 0, Text: "a"}, impl.Piece{At: 2, Text: "M"}, impl.Piece{At: 4, Text: "b"})
	piecesAre(t, "one left behind", impl.PiecePut(l, 1, "MN"), impl.Piece{At: 0, Text: "aMN"}, impl.Piece{At: 4, Text: "b"})
	piecesAre(t, "one left ahead", impl.PiecePut(l, 2, "MN"), impl.Piece{At: 0, Text: "a"}, impl.Piece{At: 2, Text: "MNb"})
	piecesAre(t, "none left", impl.PiecePut(l, 1, "MNO"), impl.Piece{At: 0, Text: "aMNOb"})
}

// TestPutInEach goes through all ways in which bytes lie in ten places, and
// all texts of up to ten bytes put there.
func TestPutInEach(t *testing.T) {
	for bits := range 1 << 10 {
		l := piecesOfBits(bits)
		for at := range int64(11) {
			for size := range 11 {
				text := "ABCDEFGHIJ"[:size]
				all := placesOf(l)
				all.put(at, text)
				piecesAre(t, "put", impl.PiecePut(l, at, text), all.pieces()...)
			}
		}
	}
}

func piecesOfBits(bits int) []impl.Piece {
	all := places{}
	for place := range 10 {
		if bits>>place&1 == 1 {
			all[int64(place)] = byte('a' + place)
		}
	}
	return all.pieces()
}

func TestEachPlaceOfEach(t *testing.T) {
	for bits := range 1 << 10 {
		l := piecesOfBits(bits)
		looksLike(t, l, placesOf(l), -2, 12)
	}
}

func TestManyPuts(t *testing.T) {
	random := rand.New(rand.NewSource(6))
	for _, low := range []int64{0, 12345, impl.MaxTime - 60} {
		for range 40 {
			l, all := []impl.Piece(nil), places{}
			for range 12 {
				at := low + random.Int63n(60)
				text := randomText(random, random.Intn(9))
				l = mustPut(t, l, at, text)
				all.put(at, text)
				looksLike(t, l, all, low-2, low+75)
			}
		}
	}
}

func TestPutAgainTurnsNothing(t *testing.T) {
	random := rand.New(rand.NewSource(7))
	for range 2000 {
		l := piecesOfBits(random.Intn(1 << 10))
		at, text := random.Int63n(12), randomText(random, random.Intn(14))
		once := mustPut(t, l, at, text)
		piecesAre(t, "again", impl.PiecePut(once, at, text), once...)
		piecesAre(t, "others there", impl.PiecePut(once, at, randomText(random, len(text))), once...)
		for i := range text {
			piecesAre(t, "a part again", impl.PiecePut(once, at+int64(i), text[i:]), once...)
		}
	}
}

// TestOneStreamInWhicheverOrder puts parts of one stream, some over others,
// and beside what is there of another stream.
func TestOneStreamInWhicheverOrder(t *testing.T) {
	const stream = "0123456789ABCDEFGHIJ"
	random := rand.New(rand.NewSource(8))
	for range 3000 {
		l := piecesOfBits(random.Intn(1 << 10))
		a, b := random.Intn(21), random.Intn(21)
		textA, textB := stream[a:a+random.Intn(21-a)], stream[b:b+random.Intn(21-b)]
		first := mustPut(t, mustPut(t, l, int64(a), textA), int64(b), textB)
		piecesAre(t, "the other order", impl.PiecePut(mustPut(t, l, int64(b), textB), int64(a), textA), first...)
	}
}

func TestWholeStreamInRandomOrder(t *testing.T) {
	random := rand.New(rand.NewSource(9))
	for range 50 {
		stream := randomText(random, 300)
		l := []impl.Piece(nil)
		for _, i := range random.Perm(30) {
			from, to := max(0, 10*i-random.Intn(4)), min(300, 10*i+10+random.Intn(4))
			l = mustPut(t, l, int64(from), stream[from:to])
		}
		piecesAre(t, "all", impl.PiecePut(l, 0, ""), impl.Piece{At: 0, Text: stream})
		same(t, "from 0", impl.PieceFrom(l, 0), stream)
	}
}

func TestPutPlaces(t *testing.T) {
	piecesAre(t, "at 0", impl.PiecePut(nil, 0, "ab"), impl.Piece{At: 0, Text: "ab"})
	piecesAre(t, "at MaxTime", impl.PiecePut(nil, impl.MaxTime, "ab"), impl.Piece{At: impl.MaxTime, Text: "ab"})
	full := alphabet[:mostPut]
	piecesAre(t, "200 bytes at MaxTime", impl.PiecePut(nil, impl.MaxTime, full), impl.Piece{At: impl.MaxTime, Text: full})
	for _, at := range []int64{-1, -2, impl.MaxTime + 1, math.MinInt64, math.MaxInt64, math.MaxInt64 - 1, 1 << 32, -1 << 32} {
		for _, text := range []string{"", "a", full} {
			piecesCode(t, "no time", impl.PiecePut(nil, at, text), impl.ErrForm)
			piecesCode(t, "no time beside pieces", impl.PiecePut(apart(3), at, text), impl.ErrForm)
		}
	}
}

// TestPlacesBehindMaxTime: At is a time, but what begins there goes on behind.
func TestPlacesBehindMaxTime(t *testing.T) {
	l := mustPut(t, []impl.Piece{{At: impl.MaxTime - 2, Text: "ab"}}, impl.MaxTime, "cdef")
	looksLike(t, l, places{impl.MaxTime - 2: 'a', impl.MaxTime - 1: 'b', impl.MaxTime: 'c',
		impl.MaxTime + 1: 'd', impl.MaxTime + 2: 'e', impl.MaxTime + 3: 'f'}, impl.MaxTime-4, impl.MaxTime+6)
	same(t, "the last one", impl.PieceFrom(l, impl.MaxTime+3), "f")
	same(t, "behind it", impl.PieceHas(l, impl.MaxTime+4), false)
	piecesAre(t, "cut behind MaxTime", impl.PieceCut(l, impl.MaxTime+2), impl.Piece{At: impl.MaxTime + 2, Text: "ef"})
}

func TestPlacesFarAway(t *testing.T) {
	l := []impl.Piece{{At: 0, Text: "ab"}, {At: 5, Text: "c"}}
	for _, at := range []int64{-1, -2, -5, math.MinInt32, math.MinInt64, math.MinInt64 + 1} {
		same(t, "from below 0", impl.PieceFrom(l, at), "")
		same(t, "has below 0", impl.PieceHas(l, at), false)
		piecesAre(t, "cut below 0", impl.PieceCut(l, at), l...)
	}
	for _, at := range []int64{6, 7, impl.MaxTime, impl.MaxTime + 1, 1 << 32, 1<<32 + 1, math.MaxInt64 - 1, math.MaxInt64} {
		same(t, "from behind all", impl.PieceFrom(l, at), "")
		same(t, "has behind all", impl.PieceHas(l, at), false)
		piecesAre(t, "cut behind all", impl.PieceCut(l, at))
	}
}

func TestMaxPieces(t *testing.T) {
	l := apart(impl.MaxPieces)
	same(t, "so many are right", impl.PiecesRight(l), true)
	same(t, "bytes", impl.PieceBytes(l), impl.MaxPieces)
	same(t, "from the last", impl.PieceFrom(l, 2*impl.MaxPieces-2), l[impl.MaxPieces-1].Text)
	piecesAre(t, "nothing put", impl.PiecePut(l, 500, ""), l...)
	piecesAre(t, "what is there", impl.PiecePut(l, 4, "C"), l...)
	piecesAre(t, "beside the last", impl.PiecePut(l, 2*impl.MaxPieces-1, "Z"),
		append(apart(impl.MaxPieces-1), impl.Piece{At: 2*impl.MaxPieces - 2, Text: l[impl.MaxPieces-1].Text + "Z"})...)
	piecesAre(t, "between two", impl.PiecePut(l, 1, "A"), append([]impl.Piece{{At: 0, Text: "aAb"}}, l[2:]...)...)
	same(t, "over all", len(mustPut(t, l, 0, alphabet[:mostPut])), 1)
	piecesAre(t, "cut", impl.PieceCut(l, 2), l[1:]...)
	for _, at := range []int64{2 * impl.MaxPieces, 2*impl.MaxPieces + 1, 500, impl.MaxTime} {
		piecesCode(t, "one more", impl.PiecePut(l, at, "Z"), impl.ErrFull)
		piecesCode(t, "one more of 200 bytes", impl.PiecePut(l, at, alphabet[:mostPut]), impl.ErrFull)
	}
	most := mustPut(t, l[:impl.MaxPieces-1], 500, "Z")
	piecesAre(t, "the last one that fits", impl.PiecePut(most, 500, "z"), append(apart(impl.MaxPieces-1), impl.Piece{At: 500, Text: "Z"})...)
	piecesCode(t, "another one between", impl.PiecePut(most, 300, "z"), impl.ErrFull)
}

func TestMorePiecesThanMax(t *testing.T) {
	for _, count := range []int{impl.MaxPieces + 1, impl.MaxPieces + 2, 100, impl.MaxList - 1, impl.MaxList} {
		l := apart(count)
		notRight(t, "too many", l)
		piecesCode(t, "one that joins two", impl.PiecePut(l, 1, "A"), impl.ErrForm)
		piecesCode(t, "one that joins them all", impl.PiecePut(l, 0, alphabet[:mostPut]), impl.ErrForm)
		piecesCode(t, "cut to few", impl.PieceCut(l, int64(2*count-2)), impl.ErrForm)
	}
}

// notRight looks at what each call tells of a list that is not right.
func notRight(t *testing.T, what string, l []impl.Piece) {
	t.Helper()
	same(t, what+": right", impl.PiecesRight(l), false)
	same(t, what+": bytes", impl.PieceBytes(l), -1)
	places := []int64{0, 1, 2, 5, -1, impl.MaxTime, math.MinInt64, math.MaxInt64}
	for _, p := range l {
		places = append(places, p.At)
	}
	for _, at := range places {
		same(t, what+": from", impl.PieceFrom(l, at), "")
		same(t, what+": has", impl.PieceHas(l, at), false)
		piecesCode(t, what+": cut", impl.PieceCut(l, at), impl.ErrForm)
		piecesCode(t, what+": put", impl.PiecePut(l, at, "a"), impl.ErrForm)
		piecesCode(t, what+": nothing put", impl.PiecePut(l, at, ""), impl.ErrForm)
	}
}

func TestMaxList(t *testing.T) {
	for _, count := range []int{impl.MaxList + 1, impl.MaxList + 2, 3 * impl.MaxList} {
		for _, l := range [][]impl.Piece{make([]impl.Piece, count), slices.Repeat(apart(1), count)} {
			same(t, "right", impl.PiecesRight(l), false)
			same(t, "bytes", impl.PieceBytes(l), -1)
			for _, at := range []int64{0, -1, impl.MaxTime + 1, math.MinInt64, math.MaxInt64} {
				same(t, "from", impl.PieceFrom(l, at), "")
				same(t, "has", impl.PieceHas(l, at), false)
				piecesCode(t, "cut", impl.PieceCut(l, at), impl.ErrSize)
				for _, text := range []string{"", "a", alphabet[:mostPut+1], strings.Repeat("a", impl.MaxBytes+1)} {
					piecesCode(t, "put", impl.PiecePut(l, at, text), impl.ErrSize)
				}
			}
		}
	}
}

func TestPutSizes(t *testing.T) {
	full := alphabet[:mostPut]
	piecesAre(t, "199 bytes", impl.PiecePut(nil, 3, full[1:]), impl.Piece{At: 3, Text: full[1:]})
	piecesAre(t, "200 bytes", impl.PiecePut(nil, 3, full), impl.Piece{At: 3, Text: full})
	piecesAre(t, "200 bytes that are there", impl.PiecePut([]impl.Piece{{At: 3, Text: full}}, 3, full), impl.Piece{At: 3, Text: full})
	wrong := []impl.Piece{{At: 1}}
	for _, size := range []int{mostPut + 1, mostPut + 2, 256 + 5, impl.MaxBytes - 1, impl.MaxBytes} {
		text := strings.Repeat("x", size)
		piecesCode(t, "more", impl.PiecePut(nil, 3, text), impl.ErrForm)
		piecesCode(t, "more than is full", impl.PiecePut(apart(impl.MaxPieces), 500, text), impl.ErrForm)
		piecesCode(t, "more that is there", impl.PiecePut([]impl.Piece{{At: 3, Text: text}}, 3, text), impl.ErrForm)
	}
	for _, size := range []int{impl.MaxBytes + 1, impl.MaxBytes + 2, 2 * impl.MaxBytes} {
		text := strings.Repeat("x", size)
		piecesCode(t, "too much", impl.PiecePut(nil, 3, text), impl.ErrSize)
		piecesCode(t, "too much at no time", impl.PiecePut(nil, -1, text), impl.ErrSize)
		piecesCode(t, "too much, and not right", impl.PiecePut(wrong, 3, text), impl.ErrSize)
		piecesCode(t, "too much, and full", impl.PiecePut(apart(impl.MaxPieces), 500, text), impl.ErrSize)
	}
}

// TestLongTextOfAPiece: a Text is a field, so MaxBytes does not bound it.
func TestLongTextOfAPiece(t *testing.T) {
	long := strings.Repeat("0123456789", impl.MaxBytes/5)
	l := []impl.Piece{{At: 1, Text: long}, {At: int64(len(long)) + 2, Text: "z"}}
	same(t, "right", impl.PiecesRight(l), true)
	same(t, "bytes", impl.PieceBytes(l), int64(len(long))+1)
	same(t, "from", impl.PieceFrom(l, 1), long)
	same(t, "has its last byte", impl.PieceHas(l, int64(len(long))), true)
	same(t, "has the place behind it", impl.PieceHas(l, int64(len(long))+1), false)
	piecesAre(t, "cut", impl.PieceCut(l, 11), impl.Piece{At: 11, Text: long[10:]}, l[1])
	piecesAre(t, "put between", impl.PiecePut(l, int64(len(long)), "AB"), impl.Piece{At: 1, Text: long + "Bz"})
}

func TestPiecesNotRight(t *testing.T) {
	type pieces = []impl.Piece
	for what, l := range map[string]pieces{
		"an empty text alone":             {{At: 0, Text: ""}},
		"an empty text ahead":             {{At: 0, Text: ""}, {At: 5, Text: "a"}},
		"an empty text behind":            {{At: 0, Text: "a"}, {At: 5, Text: ""}},
		"an empty text between":           {{At: 0, Text: "a"}, {At: 5, Text: ""}, {At: 9, Text: "b"}},
		"overlapping by one":              {{At: 0, Text: "abc"}, {At: 2, Text: "c"}},
		"overlapping by all":              {{At: 0, Text: "abc"}, {At: 0, Text: "abc"}},
		"one within the other":            {{At: 0, Text: "abcdef"}, {At: 2, Text: "c"}},
		"side by side":                    {{At: 0, Text: "abc"}, {At: 3, Text: "d"}},
		"side by side at the end":         {{At: 0, Text: "a"}, {At: 2, Text: "c"}, {At: 3, Text: "d"}},
		"not rising":                      {{At: 5, Text: "a"}, {At: 0, Text: "b"}},
		"not rising at the end":           {{At: 0, Text: "a"}, {At: 9, Text: "b"}, {At: 5, Text: "c"}},
		"two alike":                       {{At: 4, Text: "a"}, {At: 4, Text: "a"}},
		"below 0":                         {{At: -1, Text: "a"}},
		"below 0 and on":                  {{At: -1, Text: "abc"}},
		"below 0, far":                    {{At: math.MinInt64, Text: "a"}},
		"below 0 behind":                  {{At: 0, Text: "a"}, {At: -5, Text: "b"}},
		"behind MaxTime":                  {{At: impl.MaxTime + 1, Text: "a"}},
		"behind MaxTime, and another":     {{At: 0, Text: "a"}, {At: impl.MaxTime + 1, Text: "a"}},
		"far behind MaxTime":              {{At: math.MaxInt64, Text: "a"}},
		"far behind MaxTime, and another": {{At: math.MaxInt64, Text: "ab"}, {At: 5, Text: "c"}},
	} {
		notRight(t, what, l)
	}
}

func TestPiecesRight(t *testing.T) {
	type pieces = []impl.Piece
	for what, l := range map[string]pieces{
		"at 0":              {{At: 0, Text: "a"}},
		"at MaxTime":        {{At: impl.MaxTime, Text: "a"}},
		"at both":           {{At: 0, Text: "a"}, {At: impl.MaxTime, Text: "a"}},
		"beyond MaxTime":    {{At: impl.MaxTime - 1, Text: "abcdef"}},
		"one place between": {{At: 3, Text: "abc"}, {At: 7, Text: "d"}, {At: 9, Text: "e"}},
		"bytes of zero":     {{At: 0, Text: "\x00"}, {At: 2, Text: "\xff\x00"}},
	} {
		same(t, what, impl.PiecesRight(l), true)
		if impl.PieceBytes(l) < 1 {
			t.Errorf("%s: no bytes", what)
		}
	}
}

// withRoom is l with three more items behind its end, in its capacity.
func withRoom(l []impl.Piece) []impl.Piece {
	mark := impl.Piece{At: 999, Text: "mark"}
	return slices.Concat(l, []impl.Piece{mark, mark, mark})[:len(l)]
}

// TestArgumentsStay: neither what is handed in is changed, nor what stands
// behind its end.
func TestArgumentsStay(t *testing.T) {
	for bits := range 1 << 10 {
		l := withRoom(piecesOfBits(bits))
		before := slices.Clone(l[:cap(l)])
		for at := range int64(11) {
			impl.PiecePut(l, at, "ABCDEFGHIJ"[at%4:])
			impl.PieceCut(l, at)
			impl.PieceFrom(l, at)
			impl.PieceHas(l, at)
		}
		impl.PieceBytes(l)
		impl.PiecesRight(l)
		if !slices.Equal(l[:cap(l)], before) {
			t.Fatalf("changed: got %s, want %s", shown(l[:cap(l)]), shown(before))
		}
	}
}

// overwrite turns all that is reached through a list, up to its capacity.
func overwrite(l []impl.Piece) {
	l = l[:cap(l)]
	for i := range l {
		l[i] = impl.Piece{At: -7, Text: "overwritten"}
	}
}

// TestAnswersAreNewMemory overwrites an answer, and then the argument, and
// looks whether another answer, or the other of the two, turned.
func TestAnswersAreNewMemory(t *testing.T) {
	for bits := range 1 << 10 {
		for what, call := range map[string]func(l []impl.Piece) impl.PiecesOut{
			"nothing put":         func(l []impl.Piece) impl.PiecesOut { return impl.PiecePut(l, 4, "") },
			"put in the midst":    func(l []impl.Piece) impl.PiecesOut { return impl.PiecePut(l, 4, "AB") },
			"put behind all":      func(l []impl.Piece) impl.PiecesOut { return impl.PiecePut(l, 20, "AB") },
			"nothing cut":         func(l []impl.Piece) impl.PiecesOut { return impl.PieceCut(l, 0) },
			"cut below 0":         func(l []impl.Piece) impl.PiecesOut { return impl.PieceCut(l, -1) },
			"cut in the midst":    func(l []impl.Piece) impl.PiecesOut { return impl.PieceCut(l, 5) },
			"cut behind the last": func(l []impl.Piece) impl.PiecesOut { return impl.PieceCut(l, 11) },
		} {
			l := withRoom(piecesOfBits(bits))
			before := slices.Clone(l[:cap(l)])
			one, other := call(l), call(l)
			want := slices.Clone(other.Pieces)
			overwrite(one.Pieces)
			piecesAre(t, what+": the other answer", other, want...)
			if !slices.Equal(l[:cap(l)], before) {
				t.Fatalf("%s: the argument turned with the answer", what)
			}
			overwrite(l)
			piecesAre(t, what+": the answer", other, want...)
		}
	}
}
