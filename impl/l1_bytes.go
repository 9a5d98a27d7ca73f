package impl

import "strings"

const MaxNum = 1000000000
const MaxBytes = 6000
const MaxText = 60
const MaxTexts = 40

const sumStart = 7
const sumFactor = 31
const sumModulus = 16000057

// sealSize is enough for every sum, because sumModulus is less than 1<<24.
const sealSize = 3

// A seal is an array, so that two seals are compared as values.
type seal [sealSize]byte

func NumBytes(n int) (string, bool) {
	if n < 0 || n > MaxNum {
		return "", false
	}
	return string(appendNum(nil, n)), true
}

func ReadNum(b string, at int) (int, int, bool) {
	if !canRead(b, at) {
		return 0, 0, false
	}
	return numAt(b, at)
}

func TextBytes(s string) (string, bool) {
	if len(s) > MaxText {
		return "", false
	}
	return string(appendText(nil, s)), true
}

func ReadText(b string, at int) (string, int, bool) {
	if !canRead(b, at) {
		return "", 0, false
	}
	return textAt(b, at)
}

func TextsBytes(l []string) (string, bool) {
	if len(l) > MaxTexts {
		return "", false
	}
	b := appendNum(nil, len(l))
	for _, s := range l {
		if len(s) > MaxText {
			return "", false
		}
		b = appendText(b, s)
	}
	return string(b), true
}

func ReadTexts(b string, at int) ([]string, int, bool) {
	if !canRead(b, at) {
		return nil, 0, false
	}
	n, at, ok := numAt(b, at)
	if !ok || n > MaxTexts {
		return nil, 0, false
	}
	l := make([]string, n)
	for i := range l {
		l[i], at, ok = textAt(b, at)
		if !ok {
			return nil, 0, false
		}
	}
	return l, at, true
}

func SumOf(b string) (int, bool) {
	if len(b) > MaxBytes {
		return 0, false
	}
	return sumBytes([]byte(b)), true
}

func SealBytes(b string) (string, bool) {
	if len(b) > MaxBytes-sealSize {
		return "", false
	}
	body := []byte(b)
	s := sealOf(body)
	return string(append(body, s[:]...)), true
}

func OpenSeal(b string) (string, bool) {
	if len(b) < sealSize || len(b) > MaxBytes {
		return "", false
	}
	body, s := splitSeal([]byte(b))
	if s != sealOf(body) {
		return "", false
	}
	return string(body), true
}

func canRead(b string, at int) bool {
	return len(b) <= MaxBytes && at >= 0 && at <= len(b)
}

func appendNum(b []byte, n int) []byte {
	for n >= 128 {
		b = append(b, byte(n%128+128))
		n /= 128
	}
	return append(b, byte(n))
}

func appendText(b []byte, s string) []byte {
	return append(appendNum(b, len(s)), s...)
}

func numAt(b string, at int) (int, int, bool) {
	n, unit := 0, 1
	// Bounding the unit bounds the number of bytes: a run of bytes above 127 cannot make n overflow.
	for i := at; i < len(b) && unit <= MaxNum; i++ {
		group := int(b[i] % 128)
		n += group * unit
		unit *= 128
		if b[i] >= 128 {
			continue
		}
		// A highest group of zero could be left out, so the encoding is not minimal.
		if n > MaxNum || group == 0 && i > at {
			return 0, 0, false
		}
		return n, i + 1, true
	}
	return 0, 0, false
}

func textAt(b string, at int) (string, int, bool) {
	n, at, ok := numAt(b, at)
	if !ok || n > MaxText || n > len(b)-at {
		return "", 0, false
	}
	// A substring would share the memory of b.
	return strings.Clone(b[at : at+n]), at + n, true
}

func sumBytes(b []byte) int {
	sum := sumStart
	for _, c := range b {
		sum = (sum*sumFactor + int(c) + 1) % sumModulus
	}
	return sum
}

func sealOf(b []byte) seal {
	sum := sumBytes(b)
	return seal{byte(sum >> 16), byte(sum >> 8), byte(sum)}
}

// splitSeal ends the capacity of the body where the seal starts, so that nothing appended to the body can overwrite the seal.
func splitSeal(b []byte) ([]byte, seal) {
	n := len(b) - sealSize
	return b[:n:n], seal{b[n], b[n+1], b[n+2]}
}
