package tests

import (
	"encoding/binary"
	"hash/crc32"
	"math"
	"math/rand"
	"strings"
	"testing"

	"loop.example/g00847/impl"
)

// The tests of promise 4: what is sent comes back from its bytes; with one
// byte turned it is not read; a piece is not read as an answer, nor an answer
// as a piece.

func segCode(code int64) impl.SegOut {
	return impl.SegOut{Code: code}
}

func ackCode(code int64) impl.AckOut {
	return impl.AckOut{Code: code}
}

// packed is a letter, and behind it numbers and texts, put together without
// the program.
func packed(letter string, items ...any) string {
	bytes := []byte(letter)
	for _, item := range items {
		switch x := item.(type) {
		case int64:
			bytes = binary.AppendVarint(bytes, x)
		case string:
			bytes = binary.AppendVarint(bytes, int64(len(x)))
			bytes = append(bytes, x...)
		}
	}
	return string(bytes)
}

func sealed(body string) string {
	return string(binary.LittleEndian.AppendUint32([]byte(body), crc32.ChecksumIEEE([]byte(body))))
}

func segBody(s impl.Seg) string {
	return packed("S", s.Path, s.Sub, s.Data, s.Text, s.End)
}

func ackBody(a impl.Ack) string {
	return packed("A", a.Path, a.Sub, a.Data, a.Edge)
}

// segRight looks at all that is told of a right piece.
func segRight(t *testing.T, s impl.Seg) {
	t.Helper()
	bytes := sealed(segBody(s))
	same(t, "SegRight "+shown(s), impl.SegRight(s), true)
	same(t, "SegBytes "+shown(s), impl.SegBytes(s), bytes)
	same(t, "SegRead "+shown(s), impl.SegRead(bytes), impl.SegOut{Seg: s})
	same(t, "read as an answer "+shown(s), impl.AckRead(bytes), ackCode(impl.ErrSyntax))
}

// segWrong looks at all that is told of a piece that is not right, and reads
// what its bytes would be.
func segWrong(t *testing.T, s impl.Seg) {
	t.Helper()
	same(t, "SegRight "+shown(s), impl.SegRight(s), false)
	same(t, "SegBytes "+shown(s), impl.SegBytes(s), "")
	if len(s.Text) < impl.MaxBytes/2 {
		same(t, "SegRead "+shown(s), impl.SegRead(sealed(segBody(s))), segCode(impl.ErrSyntax))
	}
}

func ackRight(t *testing.T, a impl.Ack) {
	t.Helper()
	bytes := sealed(ackBody(a))
	same(t, "AckRight "+shown(a), impl.AckRight(a), true)
	same(t, "AckBytes "+shown(a), impl.AckBytes(a), bytes)
	same(t, "AckRead "+shown(a), impl.AckRead(bytes), impl.AckOut{Ack: a})
	same(t, "read as a piece "+shown(a), impl.SegRead(bytes), segCode(impl.ErrSyntax))
}

func ackWrong(t *testing.T, a impl.Ack) {
	t.Helper()
	same(t, "AckRight "+shown(a), impl.AckRight(a), false)
	same(t, "AckBytes "+shown(a), impl.AckBytes(a), "")
	same(t, "AckRead "+shown(a), impl.AckRead(sealed(ackBody(a))), ackCode(impl.ErrSyntax))
}

// neitherRead looks at what is read as no piece, and as no answer.
func neitherRead(t *testing.T, what string, bytes string, code int64) {
	t.Helper()
	same(t, what+": as a piece", impl.SegRead(bytes), segCode(code))
	same(t, what+": as an answer", impl.AckRead(bytes), ackCode(code))
}

var (
	rightPaths = []int64{0, 1, 2, 3}
	rightTimes = []int64{0, 1, 63, 64, 8191, 8192, impl.MaxTime - 1, impl.MaxTime}
	rightEnds  = append([]int64{-1}, rightTimes...)
	farNumbers = []int64{-65, -256, -1 << 32, 1<<32 - 1, 1 << 32, 1<<32 + 1, math.MinInt32, math.MaxInt32,
		math.MinInt64, math.MinInt64 + 1, math.MaxInt64 - 1, math.MaxInt64}
	wrongPaths = append([]int64{-1, -2, 4, 5, impl.MaxTime}, farNumbers...)
	wrongTimes = append([]int64{-1, -2, impl.MaxTime + 1, impl.MaxTime + 2}, farNumbers...)
	wrongEnds  = append([]int64{-2, -3, impl.MaxTime + 1, impl.MaxTime + 2}, farNumbers...)
)

// textsThatFit has a text of each length, and bytes of all values.
func textsThatFit() []string {
	texts := []string{"\x00", "\xff", "S", "A", strings.Repeat("\x00", impl.MaxSeg), strings.Repeat("\xff", impl.MaxSeg)}
	for size := range impl.MaxSeg + 1 {
		texts = append(texts, alphabet[:size])
	}
	for first := 0; first < 256; first += impl.MaxSeg {
		bytes := make([]byte, impl.MaxSeg)
		for i := range bytes {
			bytes[i] = byte(first + i)
		}
		texts = append(texts, string(bytes))
	}
	return texts
}

func someSegs() []impl.Seg {
	return []impl.Seg{
		{},
		{End: -1},
		{Path: 1, Sub: 2, Data: 3, Text: "ab", End: -1},
		{Path: 3, Sub: 64, Data: 8192, Text: "", End: 8192},
		{Path: 2, Sub: 0, Data: 0, Text: "\x00", End: 1},
		{Path: 3, Sub: impl.MaxTime, Data: impl.MaxTime, Text: alphabet[:impl.MaxSeg], End: impl.MaxTime},
	}
}

func someAcks() []impl.Ack {
	return []impl.Ack{
		{},
		{Path: 1, Sub: 2, Data: 3, Edge: 4},
		{Path: 3, Sub: 64, Data: 8192, Edge: 63},
		{Path: 3, Sub: impl.MaxTime, Data: impl.MaxTime, Edge: impl.MaxTime},
	}
}

// bodies are what is in all of these.
func bodies() []string {
	var all []string
	for _, s := range someSegs() {
		all = append(all, segBody(s))
	}
	for _, a := range someAcks() {
		all = append(all, ackBody(a))
	}
	return all
}

func TestSentBytes(t *testing.T) {
	for s, body := range map[impl.Seg]string{
		{}: "S\x00\x00\x00\x00\x00",
		{Path: 1, Sub: 2, Data: 3, Text: "ab", End: -1}:         "S\x02\x04\x06\x04ab\x01",
		{Path: 3, Sub: 64, Data: 300, Text: "", End: 8192}:      "S\x06\x80\x01\xd8\x04\x00\x80\x80\x01",
		{Sub: 1000000, Data: 0, Text: "\x00\xff", End: 1000000}: "S\x00\x80\x89\x7a\x00\x04\x00\xff\x80\x89\x7a",
	} {
		same(t, "in a piece", segBody(s), body)
		segRight(t, s)
	}
	for a, body := range map[impl.Ack]string{
		{}:                                  "A\x00\x00\x00\x00",
		{Path: 1, Sub: 2, Data: 3, Edge: 4}: "A\x02\x04\x06\x08",
		{Path: 3, Sub: 64, Data: 300, Edge: 1000000}: "A\x06\x80\x01\xd8\x04\x80\x89\x7a",
	} {
		same(t, "in an answer", ackBody(a), body)
		ackRight(t, a)
	}
}

func TestSegsComeBack(t *testing.T) {
	for _, path := range rightPaths {
		for _, sub := range rightTimes {
			for _, data := range rightTimes {
				for _, end := range rightEnds {
					segRight(t, impl.Seg{Path: path, Sub: sub, Data: data, Text: "text", End: end})
				}
			}
		}
	}
	for _, text := range textsThatFit() {
		for _, end := range rightEnds {
			segRight(t, impl.Seg{Path: 2, Sub: 5, Data: 7, Text: text, End: end})
		}
	}
}

func TestAcksComeBack(t *testing.T) {
	for _, path := range rightPaths {
		for _, sub := range rightTimes {
			for _, data := range rightTimes {
				for _, edge := range rightTimes {
					ackRight(t, impl.Ack{Path: path, Sub: sub, Data: data, Edge: edge})
				}
			}
		}
	}
}

func TestManySentComeBack(t *testing.T) {
	random := rand.New(rand.NewSource(10))
	for range 5000 {
		path, sub, data := random.Int63n(4), random.Int63n(impl.MaxTime+1), random.Int63n(impl.MaxTime+1)
		text := randomText(random, random.Intn(impl.MaxSeg+1))
		segRight(t, impl.Seg{Path: path, Sub: sub, Data: data, Text: text, End: random.Int63n(impl.MaxTime+2) - 1})
		ackRight(t, impl.Ack{Path: path, Sub: sub, Data: data, Edge: random.Int63n(impl.MaxTime + 1)})
	}
}

// TestSegNotRight turns one field of each right piece into what it may not be.
func TestSegNotRight(t *testing.T) {
	for _, right := range someSegs() {
		s := right
		for _, s.Path = range wrongPaths {
			segWrong(t, s)
		}
		s = right
		for _, s.Sub = range wrongTimes {
			segWrong(t, s)
		}
		s = right
		for _, s.Data = range wrongTimes {
			segWrong(t, s)
		}
		s = right
		for _, s.End = range wrongEnds {
			segWrong(t, s)
		}
		s = right
		for _, size := range []int{impl.MaxSeg + 1, impl.MaxSeg + 2, 63, 64, 256, 256 + 3, impl.MaxBytes - 1, impl.MaxBytes, impl.MaxBytes + 1, 1 << 17} {
			s.Text = strings.Repeat("x", size)
			segWrong(t, s)
		}
	}
	segWrong(t, impl.Seg{Path: 4, Sub: -1, Data: -1, Text: strings.Repeat("x", impl.MaxSeg+1), End: -2})
}

func TestAckNotRight(t *testing.T) {
	for _, right := range someAcks() {
		a := right
		for _, a.Path = range wrongPaths {
			ackWrong(t, a)
		}
		a = right
		for _, a.Sub = range wrongTimes {
			ackWrong(t, a)
		}
		a = right
		for _, a.Data = range wrongTimes {
			ackWrong(t, a)
		}
		a = right
		for _, a.Edge = range wrongTimes {
			ackWrong(t, a)
		}
	}
	ackWrong(t, impl.Ack{Path: -1, Sub: -1, Data: -1, Edge: -1})
}

func TestSentWithEachByteTurned(t *testing.T) {
	for _, body := range bodies() {
		bytes := sealed(body)
		for at := range len(bytes) {
			for by := 1; by < 256; by++ {
				neitherRead(t, "turned", turn(bytes, at, byte(by)), impl.ErrSum)
			}
		}
	}
}

// TestSentNotUnsealed: what Unseal refuses is refused with its code.
func TestSentNotUnsealed(t *testing.T) {
	for _, bytes := range []string{"", "S", "A", "\x00\x00\x00", "SSS", "AAA"} {
		neitherRead(t, "fewer than four", bytes, impl.ErrShort)
	}
	for _, bytes := range []string{"abcd", "SSSS", "AAAA", "abcdef", "S\x00\x00\x00\x00\x00", "A\x00\x00\x00\x00", "\x00\x00\x00\x01"} {
		neitherRead(t, "no seal", bytes, impl.ErrSum)
	}
	for _, body := range bodies() {
		bytes := sealed(body)
		for end := range len(bytes) {
			code := int64(impl.ErrSum)
			if end < 4 {
				code = impl.ErrShort
			}
			neitherRead(t, "cut off", bytes[:end], code)
		}
		neitherRead(t, "not sealed", body, impl.ErrSum)
		neitherRead(t, "one behind the other", bytes+bytes, impl.ErrSum)
	}
}

func TestSentSize(t *testing.T) {
	for _, body := range bodies() {
		full := body + strings.Repeat("\x00", impl.MaxBytes-4-len(body))
		neitherRead(t, "the longest, sealed", sealed(full), impl.ErrSyntax)
		neitherRead(t, "the longest, not sealed", full+"abcd", impl.ErrSum)
		neitherRead(t, "one byte more, sealed", sealed(full+"\x00"), impl.ErrSize)
		neitherRead(t, "one byte more, not sealed", full+"abcde", impl.ErrSize)
		neitherRead(t, "twice as long", full+full, impl.ErrSize)
	}
}

func TestSealedWithAnotherLetter(t *testing.T) {
	neitherRead(t, "empty", sealed(""), impl.ErrSyntax)
	neitherRead(t, "letters alone", sealed("S"), impl.ErrSyntax)
	neitherRead(t, "letters alone", sealed("A"), impl.ErrSyntax)
	for _, body := range bodies() {
		for i := range 256 {
			letter := string([]byte{byte(i)})
			if letter != body[:1] {
				neitherRead(t, "letter "+shown(letter), sealed(letter+body[1:]), impl.ErrSyntax)
			}
			neitherRead(t, "ahead "+shown(letter), sealed(letter+body), impl.ErrSyntax)
		}
		neitherRead(t, "no letter", sealed(body[1:]), impl.ErrSyntax)
		neitherRead(t, "sealed twice", sealed(sealed(body)), impl.ErrSyntax)
	}
}

func TestSealedEndsTooEarly(t *testing.T) {
	for _, body := range bodies() {
		for end := range len(body) {
			neitherRead(t, "cut off", sealed(body[:end]), impl.ErrSyntax)
		}
	}
}

func TestSealedHasMoreBehind(t *testing.T) {
	for _, body := range bodies() {
		for i := range 256 {
			neitherRead(t, "a byte more", sealed(body+string([]byte{byte(i)})), impl.ErrSyntax)
		}
		neitherRead(t, "another behind", sealed(body+body), impl.ErrSyntax)
		neitherRead(t, "a number more", sealed(body+impl.PutNum(impl.MaxTime)), impl.ErrSyntax)
	}
}

// longer is a number written with one byte more than is needed.
func longer(n int64) string {
	bytes := binary.AppendVarint(nil, n)
	bytes[len(bytes)-1] += 128
	return string(append(bytes, 0))
}

// TestSealedNumbersNotWrittenSo puts each wrong number in the place of each.
func TestSealedNumbersNotWrittenSo(t *testing.T) {
	nine := strings.Repeat("\xff", 9)
	for _, number := range []string{longer(0), longer(1), longer(2), longer(-1), longer(64), nine + "\x02", nine + "\x7f", nine + "\xff", nine + "\xff\x01", "\x80", "\xff", nine} {
		for at := range 5 {
			items := []string{"\x00", "\x00", "\x00", "\x00", "\x00"}
			items[at] = number
			same(t, "piece", impl.SegRead(sealed("S"+strings.Join(items, ""))), segCode(impl.ErrSyntax))
			if at < 4 {
				same(t, "answer", impl.AckRead(sealed("A"+strings.Join(items[:4], ""))), ackCode(impl.ErrSyntax))
			}
		}
	}
	for _, s := range someSegs() {
		path, sub, data, text, end := impl.PutNum(s.Path), impl.PutNum(s.Sub), impl.PutNum(s.Data), impl.PutText(s.Text), impl.PutNum(s.End)
		for _, body := range []string{
			longer(s.Path) + sub + data + text + end,
			path + longer(s.Sub) + data + text + end,
			path + sub + longer(s.Data) + text + end,
			path + sub + data + longer(int64(len(s.Text))) + s.Text + end,
			path + sub + data + text + longer(s.End),
		} {
			same(t, "one byte more than is needed", impl.SegRead(sealed("S"+body)), segCode(impl.ErrSyntax))
		}
	}
}

// TestSealedTextsNotRight looks at lengths that are not that of what follows.
func TestSealedTextsNotRight(t *testing.T) {
	const head, end = "S\x02\x04\x06", "\x01"
	same(t, "as it should be", impl.SegRead(sealed(head+impl.PutText("ab")+end)), impl.SegOut{Seg: impl.Seg{Path: 1, Sub: 2, Data: 3, Text: "ab", End: -1}})
	for _, n := range []int64{-1, -2, -3, 3, 4, 5, impl.MaxSeg, impl.MaxSeg + 1, impl.MaxBytes, impl.MaxBytes + 1, 1 << 32, 1<<32 + 2, math.MinInt64, math.MaxInt64} {
		same(t, "length", impl.SegRead(sealed(head+impl.PutNum(n)+"ab"+end)), segCode(impl.ErrSyntax))
	}
	for size := impl.MaxSeg + 1; size < 300; size++ {
		same(t, "too long", impl.SegRead(sealed(head+impl.PutText(alphabet[:size])+end)), segCode(impl.ErrSyntax))
	}
	longest := strings.Repeat("x", impl.MaxBytes-4-len(head)-2-len(end))
	same(t, "as long as fits in", impl.SegRead(sealed(head+impl.PutText(longest)+end)), segCode(impl.ErrSyntax))
}

func TestPieceIsNoAnswer(t *testing.T) {
	for _, s := range someSegs() {
		same(t, "a piece as an answer", impl.AckRead(impl.SegBytes(s)), ackCode(impl.ErrSyntax))
		same(t, "with the other letter", impl.AckRead(sealed("A"+segBody(s)[1:])), ackCode(impl.ErrSyntax))
	}
	for _, a := range someAcks() {
		same(t, "an answer as a piece", impl.SegRead(impl.AckBytes(a)), segCode(impl.ErrSyntax))
		same(t, "with the other letter", impl.SegRead(sealed("S"+ackBody(a)[1:])), segCode(impl.ErrSyntax))
	}
	same(t, "what is in a piece, with the letter of an answer", impl.SegRead(sealed("A\x00\x00\x00\x00\x00")), segCode(impl.ErrSyntax))
	same(t, "what is in an answer, with the letter of a piece", impl.AckRead(sealed("S\x00\x00\x00\x00")), ackCode(impl.ErrSyntax))
}

// TestNothingElseIsRead turns bodies at random, and seals them: what is read
// of them is right, and has these bytes and no others.
func TestNothingElseIsRead(t *testing.T) {
	random := rand.New(rand.NewSource(11))
	all := bodies()
	read := 0
	for range 200000 {
		body := turnedAtRandom(random, all[random.Intn(len(all))])
		bytes := sealed(body)
		seg, ack := impl.SegRead(bytes), impl.AckRead(bytes)
		if seg.Code == impl.OK {
			read++
			same(t, "right", impl.SegRight(seg.Seg), true)
			same(t, "bytes", segBody(seg.Seg), body)
		} else {
			same(t, "piece", seg, segCode(impl.ErrSyntax))
		}
		if ack.Code == impl.OK {
			read++
			same(t, "right", impl.AckRight(ack.Ack), true)
			same(t, "bytes", ackBody(ack.Ack), body)
		} else {
			same(t, "answer", ack, ackCode(impl.ErrSyntax))
		}
	}
	if read < 1000 {
		t.Errorf("only %d were read", read)
	}
}

// turnedAtRandom takes a byte out, puts one in, or turns one, up to three times.
func turnedAtRandom(random *rand.Rand, body string) string {
	for range 1 + random.Intn(3) {
		at := random.Intn(len(body) + 1)
		b := string([]byte{byte(random.Intn(256))})
		if random.Intn(2) == 0 {
			b = string([]byte{byte(random.Intn(6))})
		}
		switch random.Intn(3) {
		case 0:
			body = body[:at] + b + body[at:]
		case 1:
			body = body[:at] + body[min(at+1, len(body)):]
		case 2:
			body = body[:at] + b + body[min(at+1, len(body)):]
		}
	}
	return body
}
