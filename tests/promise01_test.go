package tests

import (
	"encoding/binary"
	"fmt"
	"math"
	"math/rand"
	"strings"
	"testing"

	"loop.example/g00847/impl"
)

// The tests of promise 1: numbers, and texts that fit in, come back from
// their bytes.

// same fails the test, if what the program tells is not what the document
// requires, with all fields, so that what stands beside a code is looked at.
func same[T comparable](t *testing.T, what string, got T, want T) {
	t.Helper()
	if got != want {
		t.Fatalf("%s: got %s, want %s", what, shown(got), shown(want))
	}
}

// shown cuts what is long: a text of MaxBytes bytes says no more in full.
func shown(x any) string {
	s := fmt.Sprintf("%+q", fmt.Sprintf("%+v", x))
	if len(s) > 200 {
		s = s[:200] + ".."
	}
	return s
}

func numCode(code int64) impl.NumOut {
	return impl.NumOut{Code: code}
}

func textCode(code int64) impl.TextOut {
	return impl.TextOut{Code: code}
}

// numbersOfEachLength has, for one to ten bytes, the numbers at both ends of
// what is put in so many.
func numbersOfEachLength() map[int][]int64 {
	all := map[int][]int64{1: {0, -1, 1, 63, -64}, 10: {math.MaxInt64, math.MinInt64}}
	for bytes := 1; bytes < 10; bytes++ {
		edge := int64(1) << (7*bytes - 1)
		all[bytes] = append(all[bytes], edge-1, -edge)
		all[bytes+1] = append(all[bytes+1], edge, -edge-1)
	}
	return all
}

func TestPutNumBytes(t *testing.T) {
	for _, c := range []struct {
		n    int64
		want string
	}{
		{0, "\x00"}, {-1, "\x01"}, {1, "\x02"}, {-2, "\x03"}, {63, "\x7e"}, {-64, "\x7f"},
		{64, "\x80\x01"}, {-65, "\x81\x01"}, {300, "\xd8\x04"}, {8191, "\xfe\x7f"}, {-8192, "\xff\x7f"},
		{8192, "\x80\x80\x01"}, {-8193, "\x81\x80\x01"},
		{math.MaxInt64, "\xfe\xff\xff\xff\xff\xff\xff\xff\xff\x01"},
		{math.MinInt64, "\xff\xff\xff\xff\xff\xff\xff\xff\xff\x01"},
		{1 << 62, "\x80\x80\x80\x80\x80\x80\x80\x80\x80\x01"},
		{1<<62 - 1, "\xfe\xff\xff\xff\xff\xff\xff\xff\x7f"},
		{-1 << 62, "\xff\xff\xff\xff\xff\xff\xff\xff\x7f"},
	} {
		same(t, "PutNum", impl.PutNum(c.n), c.want)
		same(t, "GetNum", impl.GetNum(c.want, 0), impl.NumOut{N: c.n, At: int64(len(c.want))})
	}
}

func TestNumbersOfOneToTenBytes(t *testing.T) {
	for length, numbers := range numbersOfEachLength() {
		for _, n := range numbers {
			bytes := impl.PutNum(n)
			same(t, "bytes of a number", len(bytes), length)
			numberComesBack(t, n)
		}
	}
}

func TestManyNumbersComeBack(t *testing.T) {
	random := rand.New(rand.NewSource(1))
	for range 20000 {
		numberComesBack(t, int64(random.Uint64())>>random.Intn(64))
	}
	for n := int64(-20000); n <= 20000; n++ {
		numberComesBack(t, n)
	}
}

// numberComesBack looks at the bytes of a number alone, and between others,
// and at each way of ending ahead of its last byte.
func numberComesBack(t *testing.T, n int64) {
	t.Helper()
	bytes := impl.PutNum(n)
	same(t, "PutNum", bytes, string(binary.AppendVarint(nil, n)))
	size := int64(len(bytes))
	same(t, "alone", impl.GetNum(bytes, 0), impl.NumOut{N: n, At: size})
	same(t, "between others", impl.GetNum("\xff\x00"+bytes+"\xff\x01", 2), impl.NumOut{N: n, At: 2 + size})
	for end := range len(bytes) {
		same(t, "cut off", impl.GetNum("z"+bytes[:end], 1), numCode(impl.ErrShort))
	}
}

func TestNumbersOneBehindTheOther(t *testing.T) {
	var bytes strings.Builder
	var numbers []int64
	for _, l := range numbersOfEachLength() {
		for _, n := range l {
			numbers = append(numbers, n)
			bytes.WriteString(impl.PutNum(n))
		}
	}
	at := int64(0)
	for _, n := range numbers {
		out := impl.GetNum(bytes.String(), at)
		same(t, "number", out.N, n)
		same(t, "code", out.Code, impl.OK)
		at = out.At
	}
	same(t, "end", at, int64(bytes.Len()))
}

func TestGetNumPlaces(t *testing.T) {
	const text = "\x04\x80\x01"
	same(t, "first", impl.GetNum(text, 0), impl.NumOut{N: 2, At: 1})
	same(t, "second", impl.GetNum(text, 1), impl.NumOut{N: 64, At: 3})
	same(t, "within the second", impl.GetNum(text, 2), impl.NumOut{N: -1, At: 3})
	for _, at := range []int64{-1, -2, math.MinInt32, math.MinInt64} {
		same(t, "below 0", impl.GetNum(text, at), numCode(impl.ErrForm))
		same(t, "below 0 of none", impl.GetNum("", at), numCode(impl.ErrForm))
	}
	for _, at := range []int64{3, 4, 100, impl.MaxBytes + 1, math.MaxInt32 + 1, 1 << 32, math.MaxInt64} {
		same(t, "at the end or behind it", impl.GetNum(text, at), numCode(impl.ErrShort))
		same(t, "behind none", impl.GetNum("", at), numCode(impl.ErrShort))
	}
	same(t, "of none", impl.GetNum("", 0), numCode(impl.ErrShort))
}

func TestGetNumNotWrittenSo(t *testing.T) {
	nine := strings.Repeat("\x80", 9)
	for _, text := range []string{
		"\x80\x00", "\x81\x00", "\xff\x00", "\xff\x80\x00", nine + "\x00", // more bytes than are needed
		nine + "\x02", nine + "\x03", nine + "\x7f", // above the tenth byte's one bit
		nine + "\x80", nine + "\x81", nine + "\xff", // an eleventh byte is wanted
		nine + "\x80\x00", nine + "\x80\x01", nine + "\x81\x01",
		strings.Repeat("\xff", 10), strings.Repeat("\xff", 11), strings.Repeat("\xff", impl.MaxBytes),
	} {
		same(t, "alone", impl.GetNum(text, 0), numCode(impl.ErrSyntax))
		if len(text) < impl.MaxBytes {
			same(t, "behind others", impl.GetNum("\x00\x00"+text, 2), numCode(impl.ErrSyntax))
			same(t, "ahead of others", impl.GetNum(text+"\x00", 0), numCode(impl.ErrSyntax))
		}
	}
	for count := 1; count <= 9; count++ {
		same(t, "ahead of the tenth byte", impl.GetNum(strings.Repeat("\xff", count), 0), numCode(impl.ErrShort))
	}
	same(t, "tenth byte 1", impl.GetNum(nine+"\x01", 0), impl.NumOut{N: 1 << 62, At: 10})
}

// TestNoOtherBytesAreANumber goes through all short texts: what is read is
// written so by PutNum, and nothing else is read.
func TestNoOtherBytesAreANumber(t *testing.T) {
	for a := range 256 {
		for b := range 256 {
			for _, c := range []int{0, 1, 127, 128, 255} {
				readAsDocumented(t, string([]byte{byte(a), byte(b), byte(c)}))
			}
		}
	}
}

func readAsDocumented(t *testing.T, text string) {
	t.Helper()
	got := impl.GetNum(text, 0)
	n, size := binary.Varint([]byte(text))
	want := impl.NumOut{N: n, At: int64(size)}
	if size == 0 {
		want = numCode(impl.ErrShort)
	} else if size > 1 && text[size-1] == 0 {
		want = numCode(impl.ErrSyntax)
	}
	same(t, "three bytes", got, want)
	if got.Code == impl.OK {
		same(t, "put again", impl.PutNum(got.N), text[:got.At])
	}
}

func TestGetNumSize(t *testing.T) {
	full := strings.Repeat("x", impl.MaxBytes-1) + "\x02"
	same(t, "at the end of the longest", impl.GetNum(full, impl.MaxBytes-1), impl.NumOut{N: 1, At: impl.MaxBytes})
	same(t, "behind the longest", impl.GetNum(full, impl.MaxBytes), numCode(impl.ErrShort))
	for _, at := range []int64{0, -1, impl.MaxBytes, impl.MaxBytes + 1, math.MinInt64, math.MaxInt64} {
		same(t, "one byte more", impl.GetNum("\x02"+full, at), numCode(impl.ErrSize))
		same(t, "no number either", impl.GetNum(strings.Repeat("\xff", impl.MaxBytes+1), at), numCode(impl.ErrSize))
	}
}

func TestTextsComeBack(t *testing.T) {
	for _, text := range []string{"", "a", "ab", "\x00", "\xff\x80\x00", "Zeichen: äöü", strings.Repeat("x", 63),
		strings.Repeat("x", 64), strings.Repeat("y", 4000), strings.Repeat("z", impl.MaxBytes-2)} {
		bytes := impl.PutText(text)
		same(t, "PutText", bytes, string(binary.AppendVarint(nil, int64(len(text))))+text)
		same(t, "GetText", impl.GetText(bytes, 0), impl.TextOut{Text: text, At: int64(len(bytes))})
		if len(bytes)+5 <= impl.MaxBytes {
			want := impl.TextOut{Text: text, At: 3 + int64(len(bytes))}
			same(t, "between others", impl.GetText("abc"+bytes+"de", 3), want)
		}
	}
}

func TestPutTextLimits(t *testing.T) {
	full := strings.Repeat("f", impl.MaxBytes)
	same(t, "the longest", impl.PutText(full), "\x80\x7d"+full)
	same(t, "one byte more", impl.PutText(full+"f"), "")
	same(t, "twice as long", impl.PutText(full+full), "")
	same(t, "none", impl.PutText(""), "\x00")
	same(t, "the longest does not fit in", impl.GetText(impl.PutText(full), 0), textCode(impl.ErrSize))
	same(t, "two bytes less do", impl.GetText(impl.PutText(full[2:]), 0), impl.TextOut{Text: full[2:], At: impl.MaxBytes})
	same(t, "one byte less does not", impl.GetText(impl.PutText(full[1:]), 0), textCode(impl.ErrSize))
}

func TestGetTextCutOff(t *testing.T) {
	for _, text := range []string{"a", "abc", strings.Repeat("q", 100)} {
		bytes := impl.PutText(text)
		for end := range len(bytes) {
			same(t, "cut off", impl.GetText(bytes[:end], 0), textCode(impl.ErrShort))
			same(t, "cut off behind others", impl.GetText("xyz"+bytes[:end], 3), textCode(impl.ErrShort))
		}
	}
	same(t, "of none", impl.GetText("", 0), textCode(impl.ErrShort))
}

func TestGetTextPlaces(t *testing.T) {
	const text = "x\x04ab\x00"
	same(t, "within", impl.GetText(text, 1), impl.TextOut{Text: "ab", At: 4})
	same(t, "empty at the end", impl.GetText(text, 4), impl.TextOut{Text: "", At: 5})
	for _, at := range []int64{-1, -5, math.MinInt64} {
		same(t, "below 0", impl.GetText(text, at), textCode(impl.ErrForm))
		same(t, "below 0 of none", impl.GetText("", at), textCode(impl.ErrForm))
	}
	for _, at := range []int64{5, 6, impl.MaxBytes + 1, 1 << 32, math.MaxInt64} {
		same(t, "at the end or behind it", impl.GetText(text, at), textCode(impl.ErrShort))
	}
}

func TestGetTextLengths(t *testing.T) {
	for _, n := range []int64{-1, -2, -64, -65, math.MinInt64, impl.MaxBytes + 1, 1 << 32, math.MaxInt64} {
		for _, behind := range []string{"", "ab", strings.Repeat("x", 7000)} {
			same(t, "no length", impl.GetText(impl.PutNum(n)+behind, 0), textCode(impl.ErrSyntax))
		}
	}
	most := strings.Repeat("x", impl.MaxBytes-2)
	for _, n := range []int64{impl.MaxBytes, impl.MaxBytes - 1} {
		same(t, "a length that is too much here", impl.GetText(impl.PutNum(n)+most, 0), textCode(impl.ErrShort))
	}
	for _, length := range []string{"\x80\x00", "\x82\x00", "\xff\xff\xff\xff\xff\xff\xff\xff\xff\x02"} {
		same(t, "no number", impl.GetText(length+"ab", 0), textCode(impl.ErrSyntax))
	}
}

func TestGetTextSize(t *testing.T) {
	long := "\x02a" + strings.Repeat("x", impl.MaxBytes-2)
	same(t, "in the longest", impl.GetText(long, 0), impl.TextOut{Text: "a", At: 2})
	for _, at := range []int64{0, -1, impl.MaxBytes, impl.MaxBytes + 1, math.MinInt64, math.MaxInt64} {
		same(t, "one byte more", impl.GetText(long+"x", at), textCode(impl.ErrSize))
		same(t, "no length either", impl.GetText("\x01"+long, at), textCode(impl.ErrSize))
	}
}

func TestNameRight(t *testing.T) {
	for _, name := range []string{"a", "z", "m", "a_9", "z0", "a__", "abcdefghijklmnopqrst", "uvwxyz_0123456789", "a" + strings.Repeat("_", 19)} {
		same(t, name, impl.NameRight(name), true)
	}
	for _, name := range []string{"", "_a", "9a", "_", "0", "A", "aB", "a-b", "a b", " a", "a\n", "a\x00", "ä", "aä",
		"abcdefghijklmnopqrstu", strings.Repeat("a", impl.MaxBytes), strings.Repeat("a", impl.MaxBytes+1), strings.Repeat("a", 256+5)} {
		same(t, name, impl.NameRight(name), false)
	}
}

// TestNameBytes goes through all bytes, as the first one, and behind it.
func TestNameBytes(t *testing.T) {
	const letters, others = "abcdefghijklmnopqrstuvwxyz", "0123456789_"
	for i := range 256 {
		b := string([]byte{byte(i)})
		letter := strings.Contains(letters, b)
		same(t, "first "+b, impl.NameRight(b), letter)
		same(t, "last "+b, impl.NameRight("a"+b), letter || strings.Contains(others, b))
		same(t, "within "+b, impl.NameRight("a"+b+"a"), letter || strings.Contains(others, b))
	}
}
