package tests

import (
	"encoding/binary"
	"math"
	"math/big"
	"math/rand/v2"
	"slices"
	"strings"
	"testing"

	"loop.example/g00850/impl"
)

const (
	tooManyBytes = impl.MaxBytes + 1
	sealLength   = 3
)

// wideNumbers lies on both sides of every change of the encoded length, and at the limit.
var wideNumbers = []int{
	0, 1, 2, 126, 127, 128, 129, 255, 256, 300, 16383, 16384, 16385,
	2097151, 2097152, 268435455, 268435456, 999999999, impl.MaxNum,
}

func wantNumBytes(t *testing.T, n int, b string, ok bool) {
	t.Helper()
	if gotB, gotOK := impl.NumBytes(n); gotB != b || gotOK != ok {
		t.Errorf("NumBytes(%d) = %q, %v; want %q, %v", n, gotB, gotOK, b, ok)
	}
}

func wantReadNum(t *testing.T, b string, at int, n int, next int, ok bool) {
	t.Helper()
	gotN, gotNext, gotOK := impl.ReadNum(b, at)
	if gotN != n || gotNext != next || gotOK != ok {
		t.Errorf("ReadNum(%.80q, %d) = %d, %d, %v; want %d, %d, %v", b, at, gotN, gotNext, gotOK, n, next, ok)
	}
}

func wantReadText(t *testing.T, b string, at int, s string, next int, ok bool) {
	t.Helper()
	gotS, gotNext, gotOK := impl.ReadText(b, at)
	if gotS != s || gotNext != next || gotOK != ok {
		t.Errorf("ReadText(%.80q, %d) = %q, %d, %v; want %q, %d, %v", b, at, gotS, gotNext, gotOK, s, next, ok)
	}
}

func wantReadTexts(t *testing.T, b string, at int, l []string, next int, ok bool) {
	t.Helper()
	gotL, gotNext, gotOK := impl.ReadTexts(b, at)
	if !slices.Equal(gotL, l) || gotNext != next || gotOK != ok {
		t.Errorf("ReadTexts(%.80q, %d) = %q, %d, %v; want %q, %d, %v", b, at, gotL, gotNext, gotOK, l, next, ok)
	}
}

func wantOpenSeal(t *testing.T, b string, s string, ok bool) {
	t.Helper()
	if gotS, gotOK := impl.OpenSeal(b); gotS != s || gotOK != ok {
		t.Errorf("OpenSeal(%.80q) = %.80q, %v; want %.80q, %v", b, gotS, gotOK, s, ok)
	}
}

// numBytes encodes by the standard library, whose unsigned varints have the same form.
func numBytes(n int) string {
	return string(binary.AppendUvarint(nil, uint64(n)))
}

func textBytes(s string) string {
	return numBytes(len(s)) + s
}

func textsBytes(l []string) string {
	b := numBytes(len(l))
	for _, s := range l {
		b += textBytes(s)
	}
	return b
}

// sumOf evaluates the checksum as a polynomial, without the remainders in between.
func sumOf(b string) int {
	sum := big.NewInt(7)
	for i := range len(b) {
		sum.Mul(sum, big.NewInt(31))
		sum.Add(sum, big.NewInt(int64(b[i])+1))
	}
	return int(sum.Mod(sum, big.NewInt(16000057)).Int64())
}

func sealBytes(b string) string {
	sum := binary.BigEndian.AppendUint32(nil, uint32(sumOf(b)))
	return b + string(sum[1:])
}

func randomBytes(r *rand.Rand, n int) string {
	b := make([]byte, n)
	for i := range b {
		b[i] = byte(r.IntN(256))
	}
	return string(b)
}

func randomTexts(r *rand.Rand) []string {
	l := make([]string, r.IntN(impl.MaxTexts+1))
	for i := range l {
		l[i] = randomBytes(r, r.IntN(impl.MaxText+1))
	}
	return l
}

func TestNumBytesHasTheLeastSignificantBitsFirst(t *testing.T) {
	wantNumBytes(t, 0, "\x00", true)
	wantNumBytes(t, 1, "\x01", true)
	wantNumBytes(t, 127, "\x7f", true)
	wantNumBytes(t, 128, "\x80\x01", true)
	wantNumBytes(t, 300, "\xac\x02", true)
	wantNumBytes(t, 16383, "\xff\x7f", true)
	wantNumBytes(t, 16384, "\x80\x80\x01", true)
	wantNumBytes(t, impl.MaxNum, "\x80\x94\xeb\xdc\x03", true)
}

func TestNumBytesRefusesNumbersOutOfRange(t *testing.T) {
	for _, n := range []int{-1, -300, math.MinInt, impl.MaxNum + 1, 1 << 35, math.MaxInt} {
		wantNumBytes(t, n, "", false)
	}
}

func TestReadNumInvertsNumBytes(t *testing.T) {
	r := rand.New(rand.NewPCG(1, 1))
	numbers := slices.Clone(wideNumbers)
	for range 2000 {
		numbers = append(numbers, r.IntN(impl.MaxNum+1)>>r.IntN(30))
	}
	for _, n := range numbers {
		b := numBytes(n)
		wantNumBytes(t, n, b, true)
		wantReadNum(t, b, 0, n, len(b), true)
		wantReadNum(t, "\xff\x00"+b+"\xff", 2, n, 2+len(b), true)
	}
}

// TestReadNumAcceptsOnlyCanonicalBytes compares with the encodings of all numbers that have at most three bytes.
func TestReadNumAcceptsOnlyCanonicalBytes(t *testing.T) {
	for high := range 256 {
		for low := range 256 {
			for _, tail := range []string{"", "\x00", "\x01", "\x7f", "\x80", "\xff"} {
				b := string([]byte{byte(low), byte(high)}) + tail
				n, next, ok := impl.ReadNum(b, 0)
				if ok && (next < 1 || next > len(b) || numBytes(n) != b[:next]) {
					t.Fatalf("ReadNum(%q, 0) = %d, %d", b, n, next)
				}
				whole := low < 128 || high > 0 && high < 128 || high >= 128 && (tail == "\x01" || tail == "\x7f")
				if ok != whole {
					t.Fatalf("ReadNum(%q, 0) succeeds: %v", b, ok)
				}
			}
		}
	}
}

func TestReadNumRefusesOtherEncodings(t *testing.T) {
	bad := []string{
		"", "\x80", "\xff", "\x80\x80\x80\x80", // cut off
		"\x80\x00", "\xff\x00", "\xac\x82\x00", "\x80\x80\x80\x80\x00", "\x80\x94\xeb\xdc\x83\x00", // not minimal
		"\x81\x94\xeb\xdc\x03",                                                                             // MaxNum + 1
		"\xff\xff\xff\xff\x03", "\x80\x80\x80\x80\x04", "\xff\xff\xff\xff\x7f", "\x80\x80\x80\x80\x80\x01", // larger
		"\x80\x80\x80\x80\x80\x80\x80\x80\x80\x02", "\x80\x80\x80\x80\x80\x80\x80\x80\x80\x80\x01", // 0 or 1 in 64 bits
		strings.Repeat("\x80", 200) + "\x01", strings.Repeat("\xff", impl.MaxBytes),
	}
	for _, b := range bad {
		wantReadNum(t, b, 0, 0, 0, false)
		if len(b) < impl.MaxBytes {
			wantReadNum(t, "\x05"+b, 1, 0, 0, false)
		}
	}
}

func TestReadersCheckTheOffset(t *testing.T) {
	b := "\x00\x00\x00"
	for at := range 3 {
		wantReadNum(t, b, at, 0, at+1, true)
		wantReadText(t, b, at, "", at+1, true)
		wantReadTexts(t, b, at, nil, at+1, true)
	}
	for _, at := range []int{3, 4, 5, -1, -3, math.MinInt, math.MaxInt} {
		wantReadNum(t, b, at, 0, 0, false)
		wantReadText(t, b, at, "", 0, false)
		wantReadTexts(t, b, at, nil, 0, false)
	}
	for _, at := range []int{-1, 0, 1} {
		wantReadNum(t, "", at, 0, 0, false)
		wantReadText(t, "", at, "", 0, false)
		wantReadTexts(t, "", at, nil, 0, false)
	}
}

func TestReadersCheckTheNumberOfBytes(t *testing.T) {
	full := strings.Repeat("\x00", impl.MaxBytes)
	for _, at := range []int{0, impl.MaxBytes - 1} {
		wantReadNum(t, full, at, 0, at+1, true)
		wantReadText(t, full, at, "", at+1, true)
		wantReadTexts(t, full, at, nil, at+1, true)
	}
	over := full + "\x00"
	for _, at := range []int{0, 1, impl.MaxBytes} {
		wantReadNum(t, over, at, 0, 0, false)
		wantReadText(t, over, at, "", 0, false)
		wantReadTexts(t, over, at, nil, 0, false)
	}
}

func TestTextBytes(t *testing.T) {
	for n := range impl.MaxText + 1 {
		s := randomBytes(rand.New(rand.NewPCG(2, uint64(n))), n)
		b, ok := impl.TextBytes(s)
		if b != textBytes(s) || !ok {
			t.Errorf("TextBytes(%q) = %q, %v", s, b, ok)
		}
		wantReadText(t, b, 0, s, len(b), true)
		wantReadText(t, "\x80"+b+"\x01\x02", 1, s, 1+len(b), true)
	}
	for _, n := range []int{impl.MaxText + 1, impl.MaxText + 2, 128, impl.MaxBytes, 70000} {
		if b, ok := impl.TextBytes(strings.Repeat("a", n)); b != "" || ok {
			t.Errorf("TextBytes of %d bytes = %q, %v", n, b, ok)
		}
	}
}

func TestReadTextRefusesOtherEncodings(t *testing.T) {
	bad := []string{
		"", "\x01", "\x02a", "\x3c" + strings.Repeat("a", impl.MaxText-1), // cut off
		"\x80\x00", "\x81\x00a", "\x82\x80\x00ab", "\x80", // the length is not canonical
		"\x3d" + strings.Repeat("a", impl.MaxText+1), "\x80\x01" + strings.Repeat("a", 128), // too long
		"\x80\x94\xeb\xdc\x03", "\xff\xff\xff\xff\x7f" + strings.Repeat("a", 100),
	}
	for _, b := range bad {
		wantReadText(t, b, 0, "", 0, false)
		wantReadText(t, "\x00"+b, 1, "", 0, false)
	}
}

func TestTextsBytes(t *testing.T) {
	r := rand.New(rand.NewPCG(3, 3))
	lists := [][]string{nil, {}, {""}, {"a", ""}, {"", "a"}, {"\x00", "\xff", "\x80\x01"}}
	for _, n := range []int{impl.MaxTexts - 1, impl.MaxTexts} {
		lists = append(lists, make([]string, n), slices.Repeat([]string{strings.Repeat("z", impl.MaxText)}, n))
	}
	for range 200 {
		lists = append(lists, randomTexts(r))
	}
	for _, l := range lists {
		b, ok := impl.TextsBytes(l)
		if b != textsBytes(l) || !ok {
			t.Errorf("TextsBytes(%q) = %q, %v", l, b, ok)
		}
		wantReadTexts(t, b, 0, l, len(b), true)
		wantReadTexts(t, "\xfe"+b+"\x80", 1, l, 1+len(b), true)
	}
}

func TestTextsBytesRefusesWhatExceedsALimit(t *testing.T) {
	long := strings.Repeat("a", impl.MaxText+1)
	full := make([]string, impl.MaxTexts)
	full[impl.MaxTexts-1] = long
	for _, l := range [][]string{{long}, {"a", long}, {long, "a"}, full, make([]string, impl.MaxTexts+1), make([]string, 1000)} {
		if b, ok := impl.TextsBytes(l); b != "" || ok {
			t.Errorf("TextsBytes(%q) = %q, %v", l, b, ok)
		}
	}
}

func TestReadTextsRefusesOtherEncodings(t *testing.T) {
	bad := []string{
		"", "\x01", "\x02\x01a", "\x02\x01a\x01", "\x28" + strings.Repeat("\x00", impl.MaxTexts-1), // cut off
		"\x80\x00", "\x81\x00\x00", "\x80", // the number of texts is not canonical
		"\x01\x80\x00", "\x02\x00\x81\x00a", // the length of a text is not canonical
		"\x01\x3d" + strings.Repeat("a", impl.MaxText+1),
		"\x29" + strings.Repeat("\x00", impl.MaxTexts+1),
		"\x80\x01" + strings.Repeat("\x00", 128), "\x80\x94\xeb\xdc\x03" + strings.Repeat("\x00", 100),
	}
	for _, b := range bad {
		wantReadTexts(t, b, 0, nil, 0, false)
		wantReadTexts(t, "\x00"+b, 1, nil, 0, false)
	}
}

func TestReadTextsFailsOnEveryPrefix(t *testing.T) {
	b := textsBytes([]string{"one", "", "three", strings.Repeat("x", impl.MaxText)})
	for n := range len(b) {
		wantReadTexts(t, b[:n], 0, nil, 0, false)
	}
}

func TestSumOf(t *testing.T) {
	want := map[string]int{"": 7, "A": 283, "\x00": 218, "\xff": 473, "AB": 8840, "BA": 8870}
	for b, sum := range want {
		if n, ok := impl.SumOf(b); n != sum || !ok {
			t.Errorf("SumOf(%q) = %d, %v; want %d", b, n, ok, sum)
		}
	}
	r := rand.New(rand.NewPCG(4, 4))
	for _, n := range []int{3, 4, 5, 6, 7, 100, 1000, impl.MaxBytes - 1, impl.MaxBytes} {
		for _, b := range []string{randomBytes(r, n), strings.Repeat("\x00", n), strings.Repeat("\xff", n)} {
			if sum, ok := impl.SumOf(b); sum != sumOf(b) || !ok {
				t.Errorf("SumOf of %d bytes = %d, %v; want %d", n, sum, ok, sumOf(b))
			}
		}
	}
	for _, n := range []int{tooManyBytes, 100000} {
		if sum, ok := impl.SumOf(strings.Repeat("a", n)); sum != 0 || ok {
			t.Errorf("SumOf of %d bytes = %d, %v", n, sum, ok)
		}
	}
}

func TestOpenSealInvertsSealBytes(t *testing.T) {
	r := rand.New(rand.NewPCG(5, 5))
	bodies := []string{"", "A", "\x00", "\xff", "abc"}
	for _, n := range []int{4, 5, 6, 10, 100, 1000, impl.MaxBytes - 4, impl.MaxBytes - sealLength} {
		bodies = append(bodies, randomBytes(r, n))
	}
	for _, body := range bodies {
		b, ok := impl.SealBytes(body)
		if b != sealBytes(body) || !ok {
			t.Errorf("SealBytes(%.80q) = %.80q, %v", body, b, ok)
		}
		wantOpenSeal(t, b, body, true)
	}
	wantOpenSeal(t, "A\x00\x01\x1b", "A", true)
	wantOpenSeal(t, "\x00\x00\x07", "", true)
}

func TestSealsCheckTheNumberOfBytes(t *testing.T) {
	for _, n := range []int{impl.MaxBytes - 2, impl.MaxBytes - 1, impl.MaxBytes, tooManyBytes, 100000} {
		body := strings.Repeat("a", n)
		if b, ok := impl.SealBytes(body); b != "" || ok {
			t.Errorf("SealBytes of %d bytes = %.80q, %v", n, b, ok)
		}
		wantOpenSeal(t, sealBytes(body), "", false)
	}
	for _, b := range []string{"", "\x00", "\x07", "\x00\x00", "\x00\x07", "\x01\x1b"} {
		wantOpenSeal(t, b, "", false)
	}
}

func TestOpenSealDetectsEverySingleChangedByte(t *testing.T) {
	r := rand.New(rand.NewPCG(6, 6))
	for _, body := range []string{"", "A", "\x00\x00", "\xff\xff\xff", randomBytes(r, 40), randomBytes(r, 90)} {
		b := []byte(sealBytes(body))
		for i, old := range b {
			for by := 1; by < 256; by++ {
				b[i] = old + byte(by)
				wantOpenSeal(t, string(b), "", false)
			}
			b[i] = old
		}
	}
}

func TestOpenSealDetectsAChangedByteAnywhereInLongBytes(t *testing.T) {
	b := []byte(sealBytes(randomBytes(rand.New(rand.NewPCG(7, 7)), impl.MaxBytes-sealLength)))
	for i, old := range b {
		for _, flip := range []byte{1, 128, 255} {
			b[i] = old ^ flip
			wantOpenSeal(t, string(b), "", false)
		}
		b[i] = old
	}
}

func TestOpenSealRefusesMisplacedSeals(t *testing.T) {
	b := sealBytes("some bytes")
	for _, other := range []string{b[1:], b[:len(b)-1], b + "\x00", "\x00" + b, b + b, "A\x1b\x01\x00", "\x00\x01\x1bA"} {
		wantOpenSeal(t, other, "", false)
	}
}
