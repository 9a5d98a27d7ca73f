package tests

import (
	"encoding/binary"
	"math"
	"math/rand/v2"
	"slices"
	"strings"
	"testing"

	"loop.example/g00850/impl"
)

// The limits are written out, so that a changed constant of the program is noticed.
const (
	mostFrame = 700
	mostDisk  = 50000

	// emptyFrame is the least number of bytes of a frame.
	emptyFrame = 4
)

func disk(kept string, loose string) impl.Disk { return impl.Disk{Kept: kept, Loose: loose} }

func frames(l ...string) string {
	b := ""
	for _, s := range l {
		b += numBytes(len(s)) + sealBytes(s)
	}
	return b
}

// endsOf returns the offset behind each frame.
func endsOf(l []string) []int {
	ends := make([]int, len(l))
	for i := range l {
		ends[i] = len(frames(l[:i+1]...))
	}
	return ends
}

func isDisk(d impl.Disk) bool {
	return len(d.Kept+d.Loose) <= mostDisk
}

// modelFrame encodes what could be the contents at this offset, and looks whether the bytes there are just these.
func modelFrame(b string, at int) (string, int, bool) {
	if at < 0 || at > len(b) || len(b) > mostDisk {
		return "", 0, false
	}
	n, size := binary.Uvarint([]byte(b[at:min(at+10, len(b))]))
	start := at + size
	if size <= 0 || n > mostFrame || int(n) > len(b)-start {
		return "", 0, false
	}
	s := b[start : start+int(n)]
	if whole := frames(s); strings.HasPrefix(b[at:], whole) {
		return s, at + len(whole), true
	}
	return "", 0, false
}

func modelFrames(b string) ([]string, int) {
	var l []string
	at := 0
	for {
		s, next, ok := modelFrame(b, at)
		if !ok {
			return l, at
		}
		l, at = append(l, s), next
	}
}

func modelFall(d impl.Disk, keep int, torn bool) impl.Disk {
	b := []byte(d.Kept + d.Loose[:keep])
	if torn && keep > 0 {
		b[len(b)-1] ^= 0xff
	}
	return disk(string(b), "")
}

func wantGoodDisk(t *testing.T, d impl.Disk, good bool) {
	t.Helper()
	if impl.GoodDisk(d) != good {
		t.Errorf("GoodDisk of %d and %d bytes is %v", len(d.Kept), len(d.Loose), !good)
	}
}

func wantFrameBytes(t *testing.T, s string, b string, ok bool) {
	t.Helper()
	if gotB, gotOK := impl.FrameBytes(s); gotB != b || gotOK != ok {
		t.Errorf("FrameBytes(%.80q) = %.80q, %v; want %.80q, %v", s, gotB, gotOK, b, ok)
	}
}

func wantReadFrame(t *testing.T, b string, at int, s string, next int, ok bool) {
	t.Helper()
	gotS, gotNext, gotOK := impl.ReadFrame(b, at)
	if gotS != s || gotNext != next || gotOK != ok {
		t.Errorf("ReadFrame(%.80q, %d) = %.80q, %d, %v; want %.80q, %d, %v", b, at, gotS, gotNext, gotOK, s, next, ok)
	}
}

func wantNoFrame(t *testing.T, b string, at int) {
	t.Helper()
	wantReadFrame(t, b, at, "", 0, false)
}

// wantDisk compares with the zero disk if the call has to fail.
func wantDisk(t *testing.T, name string, d impl.Disk, gotOK bool, want impl.Disk, ok bool) {
	t.Helper()
	if d != want || gotOK != ok {
		t.Errorf("%s = %.40q (%d bytes) and %.40q (%d bytes), %v; want %.40q (%d bytes) and %.40q (%d bytes), %v", name,
			d.Kept, len(d.Kept), d.Loose, len(d.Loose), gotOK, want.Kept, len(want.Kept), want.Loose, len(want.Loose), ok)
	}
}

func wantWrite(t *testing.T, d impl.Disk, s string, want impl.Disk, ok bool) {
	t.Helper()
	got, gotOK := impl.WriteDisk(d, s)
	wantDisk(t, "WriteDisk", got, gotOK, want, ok)
}

func wantSync(t *testing.T, d impl.Disk, want impl.Disk, ok bool) {
	t.Helper()
	got, gotOK := impl.SyncDisk(d)
	wantDisk(t, "SyncDisk", got, gotOK, want, ok)
}

func wantFall(t *testing.T, d impl.Disk, keep int, torn bool, want impl.Disk, ok bool) {
	t.Helper()
	got, gotOK := impl.FallDisk(d, keep, torn)
	wantDisk(t, "FallDisk", got, gotOK, want, ok)
}

func wantFrames(t *testing.T, d impl.Disk, l []string, end int, ok bool) {
	t.Helper()
	gotL, gotEnd, gotOK := impl.FramesOn(d)
	if !slices.Equal(gotL, l) || gotEnd != end || gotOK != ok {
		t.Errorf("FramesOn(%.40q and %.40q) = %.80q, %d, %v; want %.80q, %d, %v", d.Kept, d.Loose, gotL, gotEnd, gotOK, l, end, ok)
	}
}

func wantMend(t *testing.T, d impl.Disk, want impl.Disk, ok bool) {
	t.Helper()
	got, gotOK := impl.MendDisk(d)
	wantDisk(t, "MendDisk", got, gotOK, want, ok)
}

func wantCut(t *testing.T, d impl.Disk, n int, want impl.Disk, ok bool) {
	t.Helper()
	got, gotOK := impl.CutDisk(d, n)
	wantDisk(t, "CutDisk", got, gotOK, want, ok)
}

// wantOnlyFrames checks all that reads a disk without loose bytes: it has these intact frames, whatever is behind them.
func wantOnlyFrames(t *testing.T, d impl.Disk, l ...string) {
	t.Helper()
	b := frames(l...)
	wantFrames(t, d, l, len(b), true)
	wantMend(t, d, disk(b, ""), true)
	for n := range len(l) + 1 {
		wantCut(t, d, n, disk(frames(l[:n]...), ""), true)
	}
	wantCut(t, d, -1, impl.Disk{}, false)
	wantCut(t, d, len(l)+1, impl.Disk{}, false)
}

// wantRefused checks that no function takes this disk.
func wantRefused(t *testing.T, d impl.Disk) {
	t.Helper()
	wantGoodDisk(t, d, false)
	wantWrite(t, d, "", impl.Disk{}, false)
	wantSync(t, d, impl.Disk{}, false)
	for _, torn := range []bool{false, true} {
		wantFall(t, d, 0, torn, impl.Disk{}, false)
		wantFall(t, d, len(d.Loose), torn, impl.Disk{}, false)
	}
	wantFrames(t, d, nil, 0, false)
	wantMend(t, d, impl.Disk{}, false)
	wantCut(t, d, 0, impl.Disk{}, false)
	wantCut(t, d, 1, impl.Disk{}, false)
}

// mustWrite and mustSync fail the test at once, so that the rest of it is about disks that are there.
func mustWrite(t *testing.T, d impl.Disk, l ...string) impl.Disk {
	t.Helper()
	for _, s := range l {
		next, ok := impl.WriteDisk(d, s)
		if !ok {
			t.Fatalf("WriteDisk refuses %d bytes after %d and %d", len(s), len(d.Kept), len(d.Loose))
		}
		d = next
	}
	return d
}

func mustSync(t *testing.T, d impl.Disk) impl.Disk {
	t.Helper()
	d, ok := impl.SyncDisk(d)
	if !ok {
		t.Fatal("SyncDisk fails")
	}
	return d
}

// filled returns intact frames of n bytes in all, at least 100.
func filled(n int) string {
	whole := frames(strings.Repeat("f", mostFrame))
	b := strings.Repeat(whole, max(n-len(whole), 0)/len(whole))
	for n-len(b) > 100 {
		b += frames(strings.Repeat("g", 50))
	}
	// Less than 128 bytes are left, so the last length is a single byte, and at least as many as for a frame of no bytes.
	return b + frames(strings.Repeat("h", n-len(b)-emptyFrame))
}

// frameBodies has contents on both sides of every change of a frame's form.
func frameBodies() []string {
	l := []string{"", "a", "\x00", "\xff", "abc", "one", "\x00\x00\x00\x07", frames("inner"), frames("", "")}
	r := rand.New(rand.NewPCG(61, 61))
	for _, n := range []int{2, 10, 60, 61, 126, 127, 128, 129, 255, 256, 300, mostFrame - 1, mostFrame} {
		l = append(l, randomBytes(r, n), strings.Repeat("\x00", n), strings.Repeat("\xff", n))
	}
	return l
}

func TestFrameBytes(t *testing.T) {
	wantFrameBytes(t, "", "\x00\x00\x00\x07", true)
	wantFrameBytes(t, "A", "\x01A\x00\x01\x1b", true)
	b, ok := impl.FrameBytes("abc")
	if len(b) != 7 || !strings.HasPrefix(b, "\x03abc") || !ok {
		t.Errorf("FrameBytes(abc) = %q, %v", b, ok)
	}
	if b, ok := impl.FrameBytes(strings.Repeat("a", 300)); len(b) != 305 || !strings.HasPrefix(b, "\xac\x02a") || !ok {
		t.Errorf("FrameBytes of 300 bytes = %q, %v", b, ok)
	}
	if b, ok := impl.FrameBytes(strings.Repeat("a", mostFrame)); len(b) != 705 || !strings.HasPrefix(b, "\xbc\x05a") || !ok {
		t.Errorf("FrameBytes of %d bytes = %q, %v", mostFrame, b, ok)
	}
}

func TestFrameBytesChecksTheNumberOfBytes(t *testing.T) {
	for n := range mostFrame + 1 {
		s := strings.Repeat("x", n)
		wantFrameBytes(t, s, frames(s), true)
	}
	for _, n := range []int{mostFrame + 1, mostFrame + 2, 1000, 5997, 5998, 6000, 6001, mostDisk, mostDisk + 1} {
		wantFrameBytes(t, strings.Repeat("x", n), "", false)
	}
}

func TestReadFrameInvertsFrameBytes(t *testing.T) {
	for _, s := range frameBodies() {
		b := frames(s)
		wantFrameBytes(t, s, b, true)
		wantReadFrame(t, b, 0, s, len(b), true)
		wantReadFrame(t, "\x80\xff"+b, 2, s, 2+len(b), true)
		wantReadFrame(t, b+"\x00", 0, s, len(b), true)
		wantReadFrame(t, b+b, 0, s, len(b), true)
		wantReadFrame(t, b+b, len(b), s, 2*len(b), true)
	}
}

func TestReadFrameChecksTheOffset(t *testing.T) {
	one, two := frames("one"), frames("")
	b := one + two
	wantReadFrame(t, b, 0, "one", len(one), true)
	wantReadFrame(t, b, len(one), "", len(b), true)
	for _, at := range []int{-1, -2, -len(b), math.MinInt, 1, 2, len(one) - 1, len(one) + 1, len(b) - 1, len(b), len(b) + 1, 2 * len(b), math.MaxInt} {
		wantNoFrame(t, b, at)
	}
	for _, at := range []int{math.MinInt, -1, 0, 1, math.MaxInt} {
		wantNoFrame(t, "", at)
	}
}

func TestReadFrameChecksTheNumberOfBytes(t *testing.T) {
	for _, s := range []string{"", "abc", strings.Repeat("z", mostFrame)} {
		b := frames(s)
		rest := strings.Repeat("\x00", mostDisk-len(b))
		wantReadFrame(t, b+rest, 0, s, len(b), true)
		wantReadFrame(t, rest+b, len(rest), s, mostDisk, true)
		wantReadFrame(t, rest[:6000]+b+rest[6000:], 6000, s, 6000+len(b), true)
		wantNoFrame(t, rest+b, mostDisk)
		wantNoFrame(t, rest+b, mostDisk+1)
		wantNoFrame(t, rest+b, -1)
		wantNoFrame(t, b+rest+"\x00", 0)
		wantNoFrame(t, "\x00"+rest+b, 1+len(rest))
		wantNoFrame(t, "\x00"+rest+b, mostDisk+1)
		wantNoFrame(t, b+rest+rest, 0)
	}
}

func TestReadFrameFailsOnEveryPrefix(t *testing.T) {
	for _, s := range []string{"", "a", "abc", strings.Repeat("a", 127), strings.Repeat("b", 128), strings.Repeat("c", mostFrame)} {
		b := frames(s)
		for n := range len(b) {
			wantNoFrame(t, b[:n], 0)
			wantNoFrame(t, "\x00"+b[:n], 1)
		}
	}
}

func TestReadFrameRefusesOtherLengths(t *testing.T) {
	long := strings.Repeat("a", mostFrame+1)
	bad := []string{
		numBytes(mostFrame+1) + sealBytes(long), numBytes(5997) + sealBytes(strings.Repeat("a", 5997)), // more than MaxFrame
		numBytes(6000) + sealBytes(strings.Repeat("a", 6000)), numBytes(40000) + sealBytes(strings.Repeat("a", 40000)),
		"\x04" + sealBytes("abc"), "\x05" + sealBytes("abc"), "\x06" + sealBytes("abc"), "\x07" + sealBytes("abc"), // more than what follows
		"\x7f" + sealBytes("abc"), "\xbc\x05" + sealBytes(long[:mostFrame-1]), "\x01" + sealBytes(""),
		"\x02" + sealBytes("abc"), "\x00" + sealBytes("abc"), "\x00" + sealBytes("A"), // less than what is sealed
		"\x80\x00" + sealBytes(""), "\x83\x00" + sealBytes("abc"), "\x83\x80\x00" + sealBytes("abc"), // not in its shortest form
		"\xbc\x85\x00" + sealBytes(long[:mostFrame]), "\x83\x80\x80\x80\x00" + sealBytes("abc"),
		"\x80" + sealBytes(""), "\x83", "\x80\x80", strings.Repeat("\x80", 200), strings.Repeat("\xff", mostDisk), // no end
		numBytes(impl.MaxNum) + sealBytes("abc"), "\x81\x94\xeb\xdc\x03" + sealBytes("abc"), // huge
		"\xff\xff\xff\xff\xff\xff\xff\xff\x7f" + sealBytes("abc"), "\xff\xff\xff\xff\xff\xff\xff\xff\xff\x01" + sealBytes("abc"),
		"\x83\x80\x80\x80\x80\x80\x80\x80\x80\x02" + sealBytes("abc"), "\x83\x80\x80\x80\x80\x80\x80\x80\x80\x80\x01" + sealBytes("abc"), // 3 in 64 bits
	}
	for _, b := range bad {
		wantNoFrame(t, b, 0)
		wantOnlyFrames(t, disk(b, ""))
		if len(b) < mostDisk-20 {
			wantNoFrame(t, "\x00"+b, 1)
			wantNoFrame(t, b+frames("behind"), 0)
			wantOnlyFrames(t, disk(frames("before")+b, ""), "before")
		}
	}
}

func TestReadFrameRefusesMisplacedSeals(t *testing.T) {
	sealed := sealBytes("abc")
	for _, b := range []string{"\x03abc", sealed, "\x03" + sealed[3:] + "abc", "\x03abc" + sealed[5:] + sealed[4:5] + sealed[3:4], "\x03abd" + sealed[3:], sealBytes("\x03abc")} {
		wantNoFrame(t, b, 0)
	}
}

func TestReadFrameDetectsEveryChangedByte(t *testing.T) {
	behind := frames("behind", "")
	for _, s := range []string{"", "a", "abc", "\x00\x00", "\xff\xff\xff", strings.Repeat("x", 130)} {
		b := []byte(frames(s))
		for i, old := range b {
			for by := 1; by < 256; by++ {
				b[i] = old + byte(by)
				wantNoFrame(t, string(b), 0)
				wantNoFrame(t, string(b)+behind, 0)
			}
			b[i] = old
		}
	}
}

func TestDisksMeetTheirLimitExactly(t *testing.T) {
	full := filled(mostDisk)
	for _, n := range []int{0, 1, emptyFrame, 20000, mostDisk - 1, mostDisk} {
		d := disk(full[:n], full[n:])
		wantGoodDisk(t, d, true)
		wantSync(t, d, disk(full, ""), true)
		l, end := modelFrames(full)
		wantFrames(t, d, l, end, true)
		wantFall(t, d, len(d.Loose), false, disk(full, ""), true)
		wantFall(t, d, 0, true, disk(full[:n], ""), true)
		wantWrite(t, d, "", impl.Disk{}, false)
		wantWrite(t, d, "abc", impl.Disk{}, false)
		wantRefused(t, disk(d.Kept+"\x00", d.Loose))
		wantRefused(t, disk(d.Kept, d.Loose+"\x00"))
		wantRefused(t, disk(full, d.Kept+"\x00"))
	}
	l, _ := modelFrames(full)
	wantMend(t, disk(full, ""), disk(full, ""), true)
	wantCut(t, disk(full, ""), len(l), disk(full, ""), true)
	wantCut(t, disk(full, ""), len(l)-1, disk(frames(l[:len(l)-1]...), ""), true)
	wantCut(t, disk(full, ""), len(l)+1, impl.Disk{}, false)
	wantGoodDisk(t, impl.Disk{}, true)
}

func TestAFullDiskOfTheShortestFrames(t *testing.T) {
	l := make([]string, mostDisk/emptyFrame)
	full := strings.Repeat(frames(""), len(l))
	wantFrames(t, disk(full, ""), l, mostDisk, true)
	wantFrames(t, disk(full[:4444], full[4444:]), l, mostDisk, true)
	wantFrames(t, disk("", full[:mostDisk-1]), l[1:], mostDisk-emptyFrame, true)
	wantMend(t, disk(full[:mostDisk-1], ""), disk(full[:mostDisk-emptyFrame], ""), true)
	wantCut(t, disk(full, ""), len(l), disk(full, ""), true)
	wantCut(t, disk(full, ""), len(l)+1, impl.Disk{}, false)
	wantCut(t, disk(full, ""), 7, disk(full[:7*emptyFrame], ""), true)
	wantRefused(t, disk(full, frames("")))
}

func TestWriteDiskAppendsAFrame(t *testing.T) {
	d := impl.Disk{}
	loose := ""
	for _, s := range frameBodies() {
		wantWrite(t, d, s, disk("", loose+frames(s)), true)
		wantWrite(t, disk("\xff", loose), s, disk("\xff", loose+frames(s)), true)
		wantWrite(t, disk(loose, ""), s, disk(loose, frames(s)), true)
		d = mustWrite(t, d, s)
		loose += frames(s)
	}
}

func TestWriteDiskChecksTheNumberOfBytes(t *testing.T) {
	longest := strings.Repeat("l", mostFrame)
	wantWrite(t, impl.Disk{}, longest, disk("", frames(longest)), true)
	for _, n := range []int{mostFrame + 1, 1000, 6000, mostDisk, mostDisk + 1} {
		wantWrite(t, impl.Disk{}, strings.Repeat("l", n), impl.Disk{}, false)
	}
}

func TestWriteDiskFillsTheDiskExactly(t *testing.T) {
	for _, s := range []string{"", "a", "abc", strings.Repeat("x", 127), strings.Repeat("x", 128), strings.Repeat("x", mostFrame)} {
		room := mostDisk - len(frames(s))
		before := filled(room)
		l, _ := modelFrames(before)
		for _, n := range []int{0, 1, room / 2, room} {
			d := disk(before[:n], before[n:])
			wantWrite(t, d, s, disk(before[:n], before[n:]+frames(s)), true)
			wantFrames(t, mustWrite(t, d, s), append(slices.Clone(l), s), mostDisk, true)
			wantWrite(t, disk(d.Kept+"\x00", d.Loose), s, impl.Disk{}, false)
			wantWrite(t, disk(d.Kept, d.Loose+"\x00"), s, impl.Disk{}, false)
			if len(s) < mostFrame {
				wantWrite(t, d, s+"y", impl.Disk{}, false)
			}
		}
	}
}

func TestSyncDiskMakesAllBytesDurable(t *testing.T) {
	for _, kept := range []string{"", "\xff", frames("one"), frames("one", "two")[:10]} {
		for _, loose := range []string{"", "\x00", frames("three"), frames("three", "")} {
			wantSync(t, disk(kept, loose), disk(kept+loose, ""), true)
			wantFall(t, disk(kept+loose, ""), 0, true, disk(kept+loose, ""), true)
		}
	}
}

func TestFallDiskChecksWhatItKeeps(t *testing.T) {
	for _, d := range []impl.Disk{{}, disk("k", ""), disk("", "l"), disk(frames("one"), frames("two")), disk("\x00", "\x00\x80\xff")} {
		for _, torn := range []bool{false, true} {
			for keep := range len(d.Loose) + 1 {
				wantFall(t, d, keep, torn, modelFall(d, keep, torn), true)
			}
			for _, keep := range []int{math.MinInt, -2, -1, len(d.Loose) + 1, len(d.Kept+d.Loose) + 1, math.MaxInt} {
				wantFall(t, d, keep, torn, impl.Disk{}, false)
			}
		}
	}
}

func TestFallDiskTearsTheLastByteKept(t *testing.T) {
	for c := range 256 {
		d := disk("k", "a"+string([]byte{byte(c)})+"z")
		wantFall(t, d, 2, true, disk("ka"+string([]byte{byte(255 - c)}), ""), true)
		wantFall(t, d, 2, false, disk("ka"+string([]byte{byte(c)}), ""), true)
	}
	wantFall(t, disk("k", "abc"), 3, true, disk("kab\x9c", ""), true)
	wantFall(t, disk("k", "abc"), 1, true, disk("k\x9e", ""), true)
	wantFall(t, disk("k", "abc"), 0, true, disk("k", ""), true)
	wantFall(t, disk("k", ""), 0, true, disk("k", ""), true)
	wantFall(t, disk("", ""), 0, true, impl.Disk{}, true)
}

func TestDisksOfTheExample(t *testing.T) {
	d := mustWrite(t, mustSync(t, mustWrite(t, impl.Disk{}, "one", "two")), "three")
	if d != disk(frames("one", "two"), frames("three")) || len(d.Loose) != 9 {
		t.Fatalf("%q and %q", d.Kept, d.Loose)
	}
	for _, x := range []struct {
		keep int
		torn bool
		many int
	}{{8, false, 2}, {9, false, 3}, {9, true, 2}, {0, false, 2}, {0, true, 2}, {8, true, 2}} {
		fallen, ok := impl.FallDisk(d, x.keep, x.torn)
		if !ok {
			t.Fatalf("FallDisk with %d bytes fails", x.keep)
		}
		wantOnlyFrames(t, fallen, []string{"one", "two", "three"}[:x.many]...)
	}
}

func TestFramesOnReadsKeptAndLooseTogether(t *testing.T) {
	l := []string{"one", "", strings.Repeat("2", 200), "three"}
	b := frames(l...)
	for n := range len(b) + 1 {
		wantFrames(t, disk(b[:n], b[n:]), l, len(b), true)
		read, end := modelFrames(b[:n])
		wantFrames(t, disk(b[:n], ""), read, end, true)
		wantFrames(t, disk("", b[:n]), read, end, true)
		wantFrames(t, disk(b[:n], b[n:]+"\x80"), l, len(b), true)
	}
	wantFrames(t, impl.Disk{}, nil, 0, true)
}

func TestBytesBehindTheLastIntactFrame(t *testing.T) {
	lists := [][]string{nil, {""}, {"one"}, {"one", "", "two"}, {strings.Repeat("x", mostFrame)}}
	tails := []string{"", "\x00", "\x00\x00\x00", "\x03", "\x80", "\xff\xff", "\x83\x00" + sealBytes("abc"), frames("lost")[:7], frames("lost")[1:], "\x00\x00\x00\x08"}
	for _, l := range lists {
		for _, tail := range tails {
			wantOnlyFrames(t, disk(frames(l...)+tail, ""), l...)
			wantFrames(t, disk(frames(l...), tail), l, len(frames(l...)), true)
		}
	}
}

func TestFramesBehindAChangedFrameAreNotRead(t *testing.T) {
	l := []string{"one", "two", strings.Repeat("3", 150), "", "five"}
	b := []byte(frames(l...))
	first := 0
	for i, end := range endsOf(l) {
		for at := first; at < end; at++ {
			for _, flip := range []byte{1, 2, 16, 128, 255} {
				b[at] ^= flip
				wantOnlyFrames(t, disk(string(b), ""), l[:i]...)
				wantFrames(t, disk(string(b[:at]), string(b[at:])), l[:i], first, true)
				b[at] ^= flip
			}
		}
		first = end
	}
}

func TestDisksWithLooseBytesAreNeitherMendedNorCut(t *testing.T) {
	for _, kept := range []string{"", frames("one"), frames("one") + "\xff"} {
		for _, loose := range []string{"\x00", frames("two"), frames("two", "three") + "\x80"} {
			d := disk(kept, loose)
			wantMend(t, d, impl.Disk{}, false)
			for _, n := range []int{-1, 0, 1, 2, 3, 4} {
				wantCut(t, d, n, impl.Disk{}, false)
			}
		}
	}
}

func TestCutDisk(t *testing.T) {
	l := []string{"one", "", strings.Repeat("3", mostFrame), "four"}
	for _, tail := range []string{"", "\xff", frames("lost")[:7]} {
		d := disk(frames(l...)+tail, "")
		wantOnlyFrames(t, d, l...)
		for _, n := range []int{math.MinInt, math.MinInt32, -2, -1, len(l) + 1, len(l) + 2, len(d.Kept), math.MaxInt32, math.MaxInt} {
			wantCut(t, d, n, impl.Disk{}, false)
		}
	}
	wantOnlyFrames(t, impl.Disk{})
	wantOnlyFrames(t, disk("\x01", ""))
}

// TestATornByteAnywhereInAFrame has keep behind the byte that is torn.
func TestATornByteAnywhereInAFrame(t *testing.T) {
	long := strings.Repeat("l", 300)
	two, three := len(frames("two")), len(frames("two", "three"))
	for _, x := range []struct {
		name  string
		loose []string
		keep  int
		left  int
	}{
		{"the end of a short length", []string{"two"}, 1, 0},
		{"the end of the contents", []string{"two"}, 4, 0},
		{"the first byte of the checksum", []string{"two"}, 5, 0},
		{"the end of the checksum", []string{"two"}, two, 0},
		{"the first byte of a long length", []string{long}, 1, 0},
		{"the end of a long length", []string{long}, 2, 0},
		{"the end of long contents", []string{long}, 302, 0},
		{"the end of the checksum of long contents", []string{long}, 305, 0},
		{"a frame's end before another frame", []string{"two", "three"}, two, 0},
		{"the length of the next frame", []string{"two", "three"}, two + 1, 1},
		{"the middle of the next frame", []string{"two", "three"}, two + 3, 1},
		{"the end of the next frame", []string{"two", "three"}, three, 1},
		{"the end of a frame of no bytes", []string{"", ""}, 4, 0},
		{"the length of a frame of no bytes", []string{"", ""}, 5, 1},
		{"nothing", []string{"two", "three"}, 0, 0},
	} {
		t.Run(x.name, func(t *testing.T) {
			for _, kept := range [][]string{nil, {"one"}, {"", long}} {
				d := disk(frames(kept...), frames(x.loose...))
				fallen := modelFall(d, x.keep, true)
				wantFall(t, d, x.keep, true, fallen, true)
				wantOnlyFrames(t, fallen, slices.Concat(kept, x.loose[:x.left])...)
			}
		})
	}
}

// leftAfter counts the frames that a crash leaves intact: those that end before the torn byte.
func leftAfter(l []string, keep int, torn bool) int {
	if torn {
		keep--
	}
	n := 0
	for _, end := range endsOf(l) {
		if end <= keep {
			n++
		}
	}
	return n
}

func TestSynchronisedFramesSurviveEveryCrash(t *testing.T) {
	long := strings.Repeat("\xff", 140)
	lists := [][]string{nil, {""}, {"one"}, {"one", "two"}, {"", "", ""}, {"a", long, "b"}, {frames("inner"), "\x00\x00\x00\x07"}}
	for _, kept := range lists {
		for _, loose := range lists {
			d := mustWrite(t, mustSync(t, mustWrite(t, impl.Disk{}, kept...)), loose...)
			for keep := range len(d.Loose) + 1 {
				for _, torn := range []bool{false, true} {
					fallen, ok := impl.FallDisk(d, keep, torn)
					if !ok || fallen != modelFall(d, keep, torn) {
						t.Fatalf("FallDisk(%d, %v) = %q, %v", keep, torn, fallen, ok)
					}
					left := slices.Concat(kept, loose[:leftAfter(loose, keep, torn)])
					wantFrames(t, fallen, left, len(frames(left...)), true)
					wantMend(t, fallen, disk(frames(left...), ""), true)
				}
			}
		}
	}
}

func TestSynchronisedFramesSurviveWhateverIsWrittenBehindThem(t *testing.T) {
	synced := []string{"one", "", strings.Repeat("3", 150)}
	d := disk(frames(synced...), frames("lost"))
	// The disk is not mended, so the frames behind the torn one are not read.
	for keep := 1; keep <= len(d.Loose); keep++ {
		fallen, _ := impl.FallDisk(d, keep, true)
		again := mustWrite(t, fallen, "more", "and more")
		wantFrames(t, again, synced, len(frames(synced...)), true)
		for next := range len(again.Loose) + 1 {
			once, _ := impl.FallDisk(again, next, false)
			wantFrames(t, once, synced, len(frames(synced...)), true)
			wantMend(t, once, disk(frames(synced...), ""), true)
		}
	}
}

func TestFramesAppendedToAMendedDiskAreReadBack(t *testing.T) {
	d := disk(frames("one", "two"), frames("three", "four"))
	for keep := range len(d.Loose) + 1 {
		for _, torn := range []bool{false, true} {
			fallen, _ := impl.FallDisk(d, keep, torn)
			mended, ok := impl.MendDisk(fallen)
			if !ok {
				t.Fatalf("MendDisk fails after a crash with %d bytes", keep)
			}
			l := []string{"one", "two", "three", "four"}[:2+leftAfter([]string{"three", "four"}, keep, torn)]
			wantOnlyFrames(t, mended, l...)
			l = append(slices.Clone(l), "five", "", strings.Repeat("6", mostFrame))
			again := mustWrite(t, mended, l[len(l)-3:]...)
			wantFrames(t, again, l, len(frames(l...)), true)
			wantOnlyFrames(t, mustSync(t, again), l...)
		}
	}
}

// A modelLog has the contents of the frames of a disk, those that are durable and those that are not.
type modelLog struct {
	kept  []string
	loose []string
}

// fall reports whether the crash leaves bytes behind the last intact frame.
func (m *modelLog) fall(keep int, torn bool) bool {
	left := m.loose[:leftAfter(m.loose, keep, torn)]
	m.kept, m.loose = slices.Concat(m.kept, left), nil
	return len(frames(left...)) != keep
}

// TestDisksAgreeWithListsOfFrames writes, synchronises, crashes, mends and cuts in any order.
func TestDisksAgreeWithListsOfFrames(t *testing.T) {
	r := rand.New(rand.NewPCG(62, 62))
	for range 60 {
		d, m := impl.Disk{}, modelLog{}
		for range 60 {
			switch r.IntN(6) {
			case 0, 1, 2:
				s := randomBytes(r, r.IntN(200)>>r.IntN(8))
				d = mustWrite(t, d, s)
				m.loose = append(m.loose, s)
			case 3:
				d = mustSync(t, d)
				m.kept, m.loose = slices.Concat(m.kept, m.loose), nil
			case 4:
				keep, torn := r.IntN(len(d.Loose)+1), r.IntN(2) == 0
				d, _ = impl.FallDisk(d, keep, torn)
				if m.fall(keep, torn) {
					wantFrames(t, d, m.kept, len(frames(m.kept...)), true)
					d, _ = impl.MendDisk(d)
				}
				wantOnlyFrames(t, d, m.kept...)
			case 5:
				if len(m.loose) == 0 {
					m.kept = m.kept[:r.IntN(len(m.kept)+1)]
					d, _ = impl.CutDisk(d, len(m.kept))
				}
			}
			wantFrames(t, d, slices.Concat(m.kept, m.loose), len(d.Kept+d.Loose), true)
			if d != disk(frames(m.kept...), frames(m.loose...)) {
				t.Fatalf("the disk is %q and %q; want the frames %q and %q", d.Kept, d.Loose, m.kept, m.loose)
			}
		}
	}
}
