package tests

import (
	"math/rand/v2"
	"slices"
	"strings"
	"testing"

	"loop.example/g00850/impl"
)

// oddDiskBytes has intact frames, bytes that are none, and both, around the limits and far from them.
func oddDiskBytes() []string {
	r := rand.New(rand.NewPCG(63, 63))
	l := []string{
		"", "\x00", "\x80", "\xff", frames(""), frames("a", "b"), frames("a") + "\x80", "\x80" + frames("a"), frames("a")[:4],
		frames(strings.Repeat("z", mostFrame)), numBytes(mostFrame+1) + sealBytes(strings.Repeat("z", mostFrame+1)),
		strings.Repeat("\x00", mostDisk-1), strings.Repeat("\x80", mostDisk), strings.Repeat("\xff", mostDisk+1), strings.Repeat(frames("full"), mostDisk/8),
	}
	for n := range 12 {
		l = append(l, randomBytes(r, n), frames(randomBytes(r, n))+randomBytes(r, n))
	}
	return l
}

func oddDisks() []impl.Disk {
	var disks []impl.Disk
	for _, kept := range oddDiskBytes() {
		for _, loose := range oddDiskBytes() {
			disks = append(disks, disk(kept, loose))
		}
	}
	return disks
}

func TestFramesAcceptAllArguments(t *testing.T) {
	for _, s := range append(oddStrings(), oddDiskBytes()...) {
		if len(s) <= mostFrame {
			wantFrameBytes(t, s, frames(s), true)
		} else {
			wantFrameBytes(t, s, "", false)
		}
		for _, at := range append(slices.Clone(oddInts), len(s)-1, len(s), len(s)+1, mostDisk-4, mostDisk, mostDisk+1) {
			wantFrameByModel(t, s, at)
		}
		for at := range min(len(s), 100) {
			wantFrameByModel(t, s, at)
		}
	}
}

func wantFrameByModel(t *testing.T, b string, at int) {
	t.Helper()
	s, next, ok := modelFrame(b, at)
	wantReadFrame(t, b, at, s, next, ok)
}

func TestDisksAcceptAllArguments(t *testing.T) {
	for _, d := range oddDisks() {
		if !isDisk(d) {
			wantRefused(t, d)
			continue
		}
		wantGoodDisk(t, d, true)
		b := d.Kept + d.Loose
		wantSync(t, d, disk(b, ""), true)
		l, end := modelFrames(b)
		wantFrames(t, d, l, end, true)
		if d.Loose == "" {
			wantMend(t, d, disk(b[:end], ""), true)
		} else {
			wantMend(t, d, impl.Disk{}, false)
		}
	}
}

func TestWriteDiskAcceptsAllArguments(t *testing.T) {
	for _, d := range oddDisks() {
		for _, s := range []string{"", "\xff", "abc", strings.Repeat("l", mostFrame), strings.Repeat("l", mostFrame+1), strings.Repeat("l", mostDisk+1)} {
			if len(s) > mostFrame || !isDisk(disk(d.Kept, d.Loose+frames(s))) {
				wantWrite(t, d, s, impl.Disk{}, false)
				continue
			}
			wantWrite(t, d, s, disk(d.Kept, d.Loose+frames(s)), true)
		}
	}
}

func TestFallDiskAndCutDiskAcceptAllArguments(t *testing.T) {
	for _, d := range oddDisks() {
		l, _ := modelFrames(d.Kept)
		for _, n := range append(slices.Clone(oddInts), len(d.Loose)-1, len(d.Loose), len(d.Loose)+1, len(l)-1, len(l), len(l)+1) {
			for _, torn := range []bool{false, true} {
				if isDisk(d) && n >= 0 && n <= len(d.Loose) {
					wantFall(t, d, n, torn, modelFall(d, n, torn), true)
				} else {
					wantFall(t, d, n, torn, impl.Disk{}, false)
				}
			}
			if isDisk(d) && d.Loose == "" && n >= 0 && n <= len(l) {
				wantCut(t, d, n, disk(frames(l[:n]...), ""), true)
			} else {
				wantCut(t, d, n, impl.Disk{}, false)
			}
		}
	}
}

// resultsOfDisk returns every string of the results of all functions for a disk with loose bytes and for one without.
func resultsOfDisk(t *testing.T, d impl.Disk, flushed impl.Disk, s string) []string {
	t.Helper()
	var results []string
	add := func(name string, ok bool, l ...string) {
		if !ok {
			t.Fatalf("%s fails", name)
		}
		results = append(results, l...)
	}
	b, ok := impl.FrameBytes(s)
	add("FrameBytes", ok, b)
	read, _, ok := impl.ReadFrame(flushed.Kept, 0)
	add("ReadFrame", ok, read)
	for _, x := range []impl.Disk{d, flushed, {Loose: d.Loose}, {}} {
		written, ok := impl.WriteDisk(x, s)
		add("WriteDisk", ok, written.Kept, written.Loose)
		synced, ok := impl.SyncDisk(x)
		add("SyncDisk", ok, synced.Kept, synced.Loose)
		for _, keep := range []int{0, len(x.Loose)} {
			for _, torn := range []bool{false, true} {
				fallen, ok := impl.FallDisk(x, keep, torn)
				add("FallDisk", ok, fallen.Kept, fallen.Loose)
			}
		}
		l, _, ok := impl.FramesOn(x)
		add("FramesOn", ok, l...)
	}
	mended, ok := impl.MendDisk(flushed)
	add("MendDisk", ok, mended.Kept, mended.Loose)
	for n := range 3 {
		cut, ok := impl.CutDisk(flushed, n)
		add("CutDisk", ok, cut.Kept, cut.Loose)
	}
	return results
}

func TestResultsOfDisksAreNewMemory(t *testing.T) {
	s := strings.Repeat("s", 40)
	d, flushed := disk(frames("one", "two"), frames("three")), disk(frames("one", "two"), "")
	results := append(resultsOfDisk(t, d, flushed, s), resultsOfDisk(t, d, flushed, s)...)
	for i, x := range results {
		for _, argument := range []string{s, d.Kept, d.Loose, flushed.Kept} {
			if sharesMemory(x, argument) {
				t.Errorf("%q has a part of the argument %q", x, argument)
			}
		}
		for _, y := range results[:i] {
			if sharesMemory(x, y) {
				t.Errorf("the results %q and %q share memory", x, y)
			}
		}
	}
}

func TestFramesOnReturnsANewSlice(t *testing.T) {
	d := disk(frames("one", "two"), frames("three"))
	one, _, _ := impl.FramesOn(d)
	two, _, _ := impl.FramesOn(d)
	one = one[:cap(one)]
	for i := range one {
		one[i] = "changed"
	}
	if !slices.Equal(two, []string{"one", "two", "three"}) {
		t.Errorf("another call returns %q", two)
	}
	wantFrames(t, d, two, len(d.Kept+d.Loose), true)
}

func TestDisksDoNotDependOnEarlierCalls(t *testing.T) {
	d, flushed := disk(frames("one", "two"), frames("three")), disk(frames("one", "two"), "")
	before := resultsOfDisk(t, d, flushed, "s")
	for _, odd := range oddDisks() {
		impl.WriteDisk(odd, "abc")
		impl.SyncDisk(odd)
		impl.FallDisk(odd, 1, true)
		impl.FramesOn(odd)
		impl.MendDisk(odd)
		impl.CutDisk(odd, 1)
		impl.ReadFrame(odd.Kept, 0)
	}
	if now := resultsOfDisk(t, d, flushed, "s"); !slices.Equal(now, before) {
		t.Errorf("the results are %q, before %q", now, before)
	}
}
