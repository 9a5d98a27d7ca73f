package tests

import (
	"math"
	"math/rand/v2"
	"slices"
	"strings"
	"testing"
	"unsafe"

	"loop.example/g00850/impl"
)

// oddInts lies around the limits of the chapter and of the type.
var oddInts = []int{
	math.MinInt, math.MinInt + 1, math.MinInt32, -6001, -129, -2, -1, 0, 1, 2, 3, 40, 41, 60, 61, 127, 128,
	5999, 6000, 6001, impl.MaxNum, impl.MaxNum + 1, math.MaxInt32, 1 << 40, math.MaxInt - 1, math.MaxInt,
}

func oddStrings() []string {
	r := rand.New(rand.NewPCG(8, 8))
	l := []string{"", "\x00", "\x80", "\xff", "a", "\x01", "\x28", "\x3c", "\u00e9\u4e16", "\xed\xa0\x80"}
	for _, c := range []string{"\x00", "\x01", "\x80", "\xff", "a"} {
		for _, n := range []int{2, 3, 5, 10, 60, 61, 5997, 5998, 6000, 6001, 50000, 50001} {
			l = append(l, strings.Repeat(c, n))
		}
	}
	for n := range 200 {
		l = append(l, randomBytes(r, n))
	}
	return l
}

func sharesMemory(a string, b string) bool {
	if len(a) == 0 || len(b) == 0 {
		return false
	}
	startA, startB := uintptr(unsafe.Pointer(unsafe.StringData(a))), uintptr(unsafe.Pointer(unsafe.StringData(b)))
	return startA < startB+uintptr(len(b)) && startB < startA+uintptr(len(a))
}

func TestNumBytesAcceptsAllArguments(t *testing.T) {
	for _, n := range oddInts {
		b, ok := impl.NumBytes(n)
		if ok != (n >= 0 && n <= impl.MaxNum) || ok == (b == "") {
			t.Errorf("NumBytes(%d) = %q, %v", n, b, ok)
		}
	}
}

func TestReadersAcceptAllArguments(t *testing.T) {
	for _, b := range oddStrings() {
		for _, at := range append(slices.Clone(oddInts), len(b)-1, len(b), len(b)+1) {
			readAnything(t, b, at)
		}
		for at := range min(len(b), 200) {
			readAnything(t, b, at)
		}
	}
}

// readAnything checks that what can be read is what is encoded there, and that a failed call returns zero values.
func readAnything(t *testing.T, b string, at int) {
	t.Helper()
	n, next, ok := impl.ReadNum(b, at)
	checkRead(t, "ReadNum", b, at, next, numBytes(n), n == 0, ok)
	s, next, ok := impl.ReadText(b, at)
	checkRead(t, "ReadText", b, at, next, textBytes(s), s == "", ok)
	l, next, ok := impl.ReadTexts(b, at)
	checkRead(t, "ReadTexts", b, at, next, textsBytes(l), len(l) == 0, ok)
}

func checkRead(t *testing.T, name string, b string, at int, next int, code string, zero bool, ok bool) {
	t.Helper()
	if !ok && (next != 0 || !zero) {
		t.Errorf("%s(%.80q, %d) fails with offset %d and code %q", name, b, at, next, code)
	}
	if ok && (at < 0 || next <= at || next > len(b) || len(b) > impl.MaxBytes || b[at:next] != code) {
		t.Errorf("%s(%.80q, %d) reads %q, offset %d", name, b, at, code, next)
	}
}

func TestTextsAndSealsAcceptAllArguments(t *testing.T) {
	for _, s := range oddStrings() {
		if b, ok := impl.TextBytes(s); ok != (len(s) <= impl.MaxText) || ok == (b == "") {
			t.Errorf("TextBytes(%.80q) = %.80q, %v", s, b, ok)
		}
		if b, ok := impl.TextsBytes([]string{"a", s}); ok != (len(s) <= impl.MaxText) || ok == (b == "") {
			t.Errorf("TextsBytes of %.80q = %.80q, %v", s, b, ok)
		}
		if n, ok := impl.SumOf(s); ok != (len(s) <= impl.MaxBytes) || !ok && n != 0 {
			t.Errorf("SumOf(%.80q) = %d, %v", s, n, ok)
		}
		if b, ok := impl.SealBytes(s); ok != (len(s) <= impl.MaxBytes-sealLength) || ok == (b == "") {
			t.Errorf("SealBytes(%.80q) = %.80q, %v", s, b, ok)
		}
		if b, ok := impl.OpenSeal(s); ok && sealBytes(b) != s || !ok && b != "" {
			t.Errorf("OpenSeal(%.80q) = %.80q, %v", s, b, ok)
		}
	}
}

func TestTextsBytesNeitherChangesNorReadsBehindItsArgument(t *testing.T) {
	whole := []string{"a", "bc", "", "behind", "more"}
	for n := range len(whole) + 1 {
		before := slices.Clone(whole)
		b, ok := impl.TextsBytes(whole[:n])
		if b != textsBytes(before[:n]) || !ok {
			t.Errorf("TextsBytes(%q) = %q, %v", before[:n], b, ok)
		}
		if !slices.Equal(whole, before) {
			t.Errorf("TextsBytes changed %q to %q", before, whole)
		}
	}
}

func TestReadersReturnNewMemory(t *testing.T) {
	b := textsBytes([]string{"first", "second"})
	one, _, _ := impl.ReadTexts(b, 0)
	two, _, _ := impl.ReadTexts(b, 0)
	one[0] = "changed"
	if !slices.Equal(two, []string{"first", "second"}) {
		t.Errorf("a later call returns %q", two)
	}
	if sharesMemory(one[1], b) || sharesMemory(two[0], b) {
		t.Error("ReadTexts returns a part of its argument")
	}
	text := textBytes("some text")
	if s, _, ok := impl.ReadText(text, 0); !ok || sharesMemory(s, text) {
		t.Error("ReadText returns a part of its argument")
	}
	sealed := sealBytes("some bytes")
	if s, ok := impl.OpenSeal(sealed); !ok || sharesMemory(s, sealed) {
		t.Error("OpenSeal returns a part of its argument")
	}
}

func TestResultsDoNotDependOnEarlierCalls(t *testing.T) {
	first, _ := impl.TextsBytes([]string{"a", "b"})
	for _, s := range oddStrings() {
		impl.TextsBytes([]string{s})
		impl.SealBytes(s)
		impl.ReadTexts(s, 0)
	}
	if again, _ := impl.TextsBytes([]string{"a", "b"}); again != first {
		t.Errorf("%q, then %q", first, again)
	}
}
