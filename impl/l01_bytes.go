package impl

import (
	"errors"
	"strconv"
)

// Constants, see chapter 1.
const (
	OK        = 0
	ErrForm   = 1
	ErrSize   = 2
	ErrSyntax = 3
	ErrShort  = 4
	ErrSum    = 5
	ErrNone   = 6
	ErrThere  = 7
	ErrRange  = 8
	ErrFull   = 9
	ErrState  = 10
	MaxBytes  = 8000
	MaxList   = 400
	MaxTime   = 1000000
)

const (
	maxName   = 20
	sumBytes  = 4
	maxCrc    = 1<<32 - 1
	crcTurn   = 0xEDB88320
	moreBit   = 128
	lastShift = 63 // of a number's tenth byte, which has room for one bit of 64
)

// NumOut is a thing of chapter 2.
type NumOut struct {
	N    int64
	At   int64
	Code int64
}

// TextOut is a thing of chapter 2.
type TextOut struct {
	Text string
	At   int64
	Code int64
}

// fault carries a code as an error, so that what reads bytes need not name
// what its caller hands back beside a code.
type fault struct {
	code int64
}

func (f fault) Error() string {
	return "fault " + strconv.FormatInt(f.code, 10)
}

func codeOf(err error) int64 {
	var f fault
	if errors.As(err, &f) {
		return f.code
	}
	return OK
}

// PutNum: see chapter 2.
func PutNum(n int64) string {
	bytes := make([]byte, 0, 10)
	u := fold(n)
	for u >= moreBit {
		bytes = append(bytes, byte(u%moreBit)+moreBit)
		u /= moreBit
	}
	return string(append(bytes, byte(u)))
}

// fold is 2n, or -2n-1 of an n below 0, which is 2n with all bits turned: so
// it holds for the least int64 too, of which there is no -n.
func fold(n int64) uint64 {
	u := uint64(n) << 1
	if n < 0 {
		return ^u
	}
	return u
}

func unfold(u uint64) int64 {
	half := int64(u >> 1)
	if u%2 == 1 {
		return ^half
	}
	return half
}

// GetNum: see chapter 2.
func GetNum(text string, at int64) NumOut {
	n, next, err := readNum(text, at)
	if err != nil {
		return NumOut{Code: codeOf(err)}
	}
	return NumOut{N: n, At: next}
}

// checkPlace names the faults that are looked for ahead of any byte.
func checkPlace(text string, at int64) error {
	if len(text) > MaxBytes {
		return fault{ErrSize}
	}
	if at < 0 {
		return fault{ErrForm}
	}
	return nil
}

// readNum tells the number at a place, and the place behind it.
func readNum(text string, at int64) (int64, int64, error) {
	var u uint64
	var shift uint
	var b byte
	if err := checkPlace(text, at); err != nil {
		return 0, 0, err
	}

more:
	if at >= int64(len(text)) {
		return 0, 0, fault{ErrShort}
	}
	b = text[at]
	at++
	u |= uint64(b%moreBit) << shift
	if b < moreBit {
		goto last
	}
	if shift == lastShift {
		goto wrong
	}
	shift += 7
	goto more

last:
	if shift == lastShift && b > 1 {
		goto wrong
	}
	if shift > 0 && b == 0 { // the number ends ahead of this byte
		goto wrong
	}
	return unfold(u), at, nil

wrong:
	return 0, 0, fault{ErrSyntax}
}

// PutText: see chapter 2.
func PutText(t string) string {
	if len(t) > MaxBytes {
		return ""
	}
	return join(PutNum(int64(len(t))), t)
}

func join(head string, tail string) string {
	both := make([]byte, len(head)+len(tail))
	at := copy(both, head)
	copy(both[at:], tail)
	return string(both)
}

// GetText: see chapter 2.
func GetText(text string, at int64) TextOut {
	t, next, err := readText(text, at)
	if err != nil {
		return TextOut{Code: codeOf(err)}
	}
	return TextOut{Text: t, At: next}
}

// readText tells the text at a place, and the place behind it.
func readText(text string, at int64) (string, int64, error) {
	n, from, err := readNum(text, at)
	if err != nil {
		return "", 0, err
	}
	if n < 0 || n > MaxBytes {
		return "", 0, fault{ErrSyntax}
	}
	if n > int64(len(text))-from {
		return "", 0, fault{ErrShort}
	}
	return text[from : from+n], from + n, nil
}

// NameRight: see chapter 2.
func NameRight(t string) bool {
	if len(t) < 1 || len(t) > maxName || !isLetter(t[0]) {
		return false
	}
	for i := 1; i < len(t); i++ {
		if !isNameByte(t[i]) {
			return false
		}
	}
	return true
}

func isLetter(b byte) bool {
	return b >= 'a' && b <= 'z'
}

func isNameByte(b byte) bool {
	return isLetter(b) || b >= '0' && b <= '9' || b == '_'
}

// Crc: see chapter 2.
func Crc(text string) int64 {
	return CrcMore(0, text)
}

// CrcMore: see chapter 2. The register is the CRC with all bits turned, so
// that of a CRC of 0 is the one with which the CRC of any text begins.
func CrcMore(crc int64, text string) int64 {
	if len(text) > MaxBytes || crc < 0 || crc > maxCrc {
		return 0
	}
	register := ^uint32(crc)
	for i := 0; i < len(text); i++ {
		register = crcByte(register, text[i])
	}
	return int64(^register)
}

// crcByte puts in all bits of b at once: none of them reaches another ahead of
// its turn, as each step looks at the lowest bit alone.
func crcByte(register uint32, b byte) uint32 {
	register ^= uint32(b)
	for range 8 {
		low := register % 2
		register >>= 1
		if low == 1 {
			register ^= crcTurn
		}
	}
	return register
}

// Seal: see chapter 2.
func Seal(text string) string {
	if len(text) > MaxBytes-sumBytes {
		return ""
	}
	return join(text, sumOf(text))
}

func sumOf(text string) string {
	crc := Crc(text)
	sum := make([]byte, sumBytes)
	for i := range sum {
		sum[i] = byte(crc % 256)
		crc /= 256
	}
	return string(sum)
}

// Unseal: see chapter 2.
func Unseal(text string) TextOut {
	body, err := unseal(text)
	if err != nil {
		return TextOut{Code: codeOf(err)}
	}
	return TextOut{Text: body}
}

func unseal(text string) (string, error) {
	if len(text) > MaxBytes {
		return "", fault{ErrSize}
	}
	if len(text) < sumBytes {
		return "", fault{ErrShort}
	}
	body := text[:len(text)-sumBytes]
	if Seal(body) != text {
		return "", fault{ErrSum}
	}
	return body, nil
}
