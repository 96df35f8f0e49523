package tests

import (
	"encoding/binary"
	"hash/crc32"
	"math"
	"math/rand"
	"strings"
	"testing"

	"loop.example/g00847/impl"
)

// The tests of promise 2: a sealed text comes back; with one byte turned it is
// refused; a CRC goes on from text to text.

// randomText has bytes of all values.
func randomText(random *rand.Rand, size int) string {
	bytes := make([]byte, size)
	for i := range bytes {
		bytes[i] = byte(random.Intn(256))
	}
	return string(bytes)
}

func turn(text string, at int, by byte) string {
	bytes := []byte(text)
	bytes[at] ^= by
	return string(bytes)
}

func ieee(text string) int64 {
	return int64(crc32.ChecksumIEEE([]byte(text)))
}

func TestCrcKnown(t *testing.T) {
	for _, c := range []struct {
		text string
		want int64
	}{
		{"", 0}, {"a", 0xE8B7BE43}, {"123456789", 0xCBF43926}, {"\x00", 0xD202EF8D}, {"\xff", 0xFF000000},
		{"\x00\x00\x00\x00", 0x2144DF1C}, {"\xff\xff\xff\xff", 0xFFFFFFFF},
		{"The quick brown fox jumps over the lazy dog", 0x414FA339},
	} {
		same(t, "Crc "+c.text, impl.Crc(c.text), c.want)
	}
	for b := range 256 {
		text := string([]byte{byte(b)})
		same(t, "Crc of a byte", impl.Crc(text), ieee(text))
	}
}

func TestCrcSizes(t *testing.T) {
	random := rand.New(rand.NewSource(2))
	for _, size := range []int{1, 2, 3, 4, 5, 63, 64, 65, 255, 256, 1000, impl.MaxBytes - 1, impl.MaxBytes} {
		text := randomText(random, size)
		same(t, "Crc", impl.Crc(text), ieee(text))
	}
	for _, size := range []int{impl.MaxBytes + 1, impl.MaxBytes + 2, 2 * impl.MaxBytes} {
		same(t, "Crc of too much", impl.Crc(randomText(random, size)), 0)
	}
}

func TestCrcGoesOn(t *testing.T) {
	random := rand.New(rand.NewSource(3))
	text := randomText(random, 300)
	for cut := 0; cut <= len(text); cut++ {
		same(t, "of both", impl.CrcMore(impl.Crc(text[:cut]), text[cut:]), impl.Crc(text))
	}
	crc := impl.Crc("")
	for i := range len(text) {
		crc = impl.CrcMore(crc, text[i:i+1])
		same(t, "byte by byte", crc, ieee(text[:i+1]))
	}
	for range 200 {
		a, b, c := randomText(random, random.Intn(40)), randomText(random, random.Intn(40)), randomText(random, random.Intn(40))
		same(t, "of three", impl.CrcMore(impl.CrcMore(impl.Crc(a), b), c), ieee(a+b+c))
	}
}

func TestCrcMoreLimits(t *testing.T) {
	full := strings.Repeat("\xa5", impl.MaxBytes)
	same(t, "both of the longest", impl.CrcMore(impl.Crc(full), full), ieee(full+full))
	same(t, "one byte more", impl.CrcMore(impl.Crc("a"), full+"\xa5"), 0)
	same(t, "nothing more", impl.CrcMore(12345, ""), 12345)
	same(t, "the greatest", impl.CrcMore(1<<32-1, ""), 1<<32-1)
	same(t, "from the greatest", impl.CrcMore(1<<32-1, "b"), ieee("\xff\xff\xff\xffb"))
	same(t, "the least", impl.CrcMore(0, "b"), ieee("b"))
	for _, crc := range []int64{-1, -12345, 1 << 32, 1<<32 + 1, 1<<33 - 1, math.MinInt64, math.MaxInt64, math.MinInt32} {
		same(t, "no CRC", impl.CrcMore(crc, "b"), 0)
		same(t, "no CRC, nothing more", impl.CrcMore(crc, ""), 0)
	}
}

func TestSealBytes(t *testing.T) {
	same(t, "of none", impl.Seal(""), "\x00\x00\x00\x00")
	same(t, "lowest byte first", impl.Seal("123456789"), "123456789\x26\x39\xf4\xcb")
	random := rand.New(rand.NewSource(4))
	for size := range 300 {
		text := randomText(random, size)
		want := string(binary.LittleEndian.AppendUint32([]byte(text), crc32.ChecksumIEEE([]byte(text))))
		same(t, "Seal", impl.Seal(text), want)
		same(t, "Unseal", impl.Unseal(want), impl.TextOut{Text: text})
	}
}

func TestSealLimits(t *testing.T) {
	full := strings.Repeat("s", impl.MaxBytes-4)
	same(t, "the longest", len(impl.Seal(full)), impl.MaxBytes)
	same(t, "the longest comes back", impl.Unseal(impl.Seal(full)), impl.TextOut{Text: full})
	for _, more := range []string{"s", "ssss", "sssss", full} {
		same(t, "one byte more, or some", impl.Seal(full+more), "")
	}
}

func TestUnsealShort(t *testing.T) {
	for _, text := range []string{"", "\x00", "\x00\x00", "\x00\x00\x00", "abc", "\xff\xff\xff"} {
		same(t, "fewer than four", impl.Unseal(text), textCode(impl.ErrShort))
	}
	same(t, "four", impl.Unseal("\x00\x00\x00\x00"), impl.TextOut{})
	same(t, "four others", impl.Unseal("abcd"), textCode(impl.ErrSum))
}

func TestUnsealSize(t *testing.T) {
	full := impl.Seal(strings.Repeat("s", impl.MaxBytes-4))
	same(t, "one byte more", impl.Unseal(full+"s"), textCode(impl.ErrSize))
	same(t, "one byte more ahead", impl.Unseal("s"+full), textCode(impl.ErrSize))
	same(t, "one byte less", impl.Unseal(full[1:]), textCode(impl.ErrSum))
	more := strings.Repeat("s", impl.MaxBytes-3)
	sealed := string(binary.LittleEndian.AppendUint32([]byte(more), crc32.ChecksumIEEE([]byte(more))))
	same(t, "sealed by another", impl.Unseal(sealed), textCode(impl.ErrSize))
}

func TestEachByteTurned(t *testing.T) {
	for _, text := range []string{"", "a", "ab", "\x00\x00", "stream", "\xff\xff\xff\xff"} {
		sealed := impl.Seal(text)
		for at := range len(sealed) {
			for by := 1; by < 256; by++ {
				same(t, "turned", impl.Unseal(turn(sealed, at, byte(by))), textCode(impl.ErrSum))
			}
		}
	}
}

func TestEachByteTurnedOfLong(t *testing.T) {
	random := rand.New(rand.NewSource(5))
	for _, size := range []int{500, impl.MaxBytes - 4} {
		sealed := impl.Seal(randomText(random, size))
		for at := range len(sealed) {
			by := byte(1 + random.Intn(255))
			same(t, "turned", impl.Unseal(turn(sealed, at, by)), textCode(impl.ErrSum))
		}
	}
}

func TestUnsealOther(t *testing.T) {
	sealed := impl.Seal("stream")
	for end := 4; end < len(sealed); end++ {
		same(t, "cut off", impl.Unseal(sealed[:end]), textCode(impl.ErrSum))
	}
	same(t, "highest byte first", impl.Unseal("123456789\xcb\xf4\x39\x26"), textCode(impl.ErrSum))
	same(t, "bits not turned", impl.Unseal("123456789\xd9\xc6\x0b\x34"), textCode(impl.ErrSum))
	same(t, "sealed twice", impl.Unseal(impl.Unseal(impl.Seal(impl.Seal("x"))).Text), impl.TextOut{Text: "x"})
}
