package tests

import (
	"math"
	"math/rand/v2"
	"slices"
	"testing"

	"loop.example/g00850/impl"
)

// The limits are written out, so that a changed constant of the program is noticed.
const (
	mostLeases    = 40
	longest       = 100
	leastEnd      = -20
	latestFrom    = 100020
	latestUntil   = 100200
	asking        = 1
	passing       = 2
	drifting      = 3
	giving        = 4
	mostLeaseActs = 100
)

func lease(who int, from int, until int) impl.Lease {
	return impl.Lease{Who: who, From: from, Until: until}
}

func leases(l ...impl.Lease) []impl.Lease { return l }

// clocksOf has a clock for each offset.
func clocksOf(offs ...int) []impl.Clock {
	var l []impl.Clock
	for _, off := range offs {
		l = append(l, clock(off))
	}
	return l
}

func watchOf(now int, clocks []impl.Clock, given ...impl.Lease) impl.Watch {
	return impl.Watch{True: now, Clocks: clocks, Given: given}
}

// watchAt has the clocks of the chapter's table W.
func watchAt(now int, given ...impl.Lease) impl.Watch {
	return watchOf(now, clocksOf(5, -5, 0), given...)
}

// exampleWatch is the table W of the chapter.
func exampleWatch() impl.Watch { return watchAt(100, lease(0, 100, 120)) }

func cloneWatch(w impl.Watch) impl.Watch {
	return watchOf(w.True, slices.Clone(w.Clocks), slices.Clone(w.Given)...)
}

// givenTo returns the table with other leases.
func givenTo(w impl.Watch, given ...impl.Lease) impl.Watch {
	return watchOf(w.True, slices.Clone(w.Clocks), slices.Clone(given)...)
}

// further returns the table with one lease more.
func further(w impl.Watch, l impl.Lease) impl.Watch {
	return givenTo(w, append(slices.Clone(w.Given), l)...)
}

func passed(w impl.Watch, by int) impl.Watch {
	w = cloneWatch(w)
	w.True += by
	return w
}

func withOff(w impl.Watch, who int, off int) impl.Watch {
	w = cloneWatch(w)
	w.Clocks[who].Off = off
	return w
}

// manyLeases are of all three nodes in turn and have been over for long at time 100.
func manyLeases(n int) []impl.Lease {
	var l []impl.Lease
	for i := range n {
		l = append(l, lease(i%3, i, i+1))
	}
	return l
}

func leaseAct(kind int, who int, by int) impl.WatchAct {
	return impl.WatchAct{Kind: kind, Who: who, By: by}
}

func leaseActs(l ...impl.WatchAct) []impl.WatchAct { return l }

func equalWatch(a impl.Watch, b impl.Watch) bool {
	return a.True == b.True && slices.Equal(a.Clocks, b.Clocks) && slices.Equal(a.Given, b.Given)
}

func isWatch(w impl.Watch) bool {
	wrongClock := func(c impl.Clock) bool { return !isWithin(c.Off, -farthestOff, farthestOff) }
	wrongLease := func(l impl.Lease) bool {
		return !isWithin(l.Who, 0, len(w.Clocks)-1) || !isWithin(l.From, leastEnd, latestFrom) || !isWithin(l.Until, leastEnd, latestUntil)
	}
	return isWithin(w.True, 0, lastTrue) && isWithin(len(w.Clocks), 1, 5) && !slices.ContainsFunc(w.Clocks, wrongClock) &&
		len(w.Given) <= mostLeases && !slices.ContainsFunc(w.Given, wrongLease)
}

func watches(w impl.Watch, who int) bool { return isWatch(w) && isWithin(who, 0, len(w.Clocks)-1) }

// endsOfNode returns the interval of a node.
func endsOfNode(w impl.Watch, who int) (int, int) {
	shown := w.True + w.Clocks[who].Off
	return shown - 5, shown + 5
}

func judgedWatch(w impl.Watch) (impl.Watch, bool) {
	if !isWatch(w) {
		return impl.Watch{}, false
	}
	return w, true
}

func modelPass(w impl.Watch, by int) (impl.Watch, bool) {
	if !isWatch(w) || !isWithin(by, 0, lastTrue) {
		return impl.Watch{}, false
	}
	return judgedWatch(passed(w, by))
}

func modelDrift(w impl.Watch, who int, off int) (impl.Watch, bool) {
	if !watches(w, who) {
		return impl.Watch{}, false
	}
	return judgedWatch(withOff(w, who, off))
}

// modelBlocked reports whether another node's lease is not over yet.
func modelBlocked(w impl.Watch, who int) bool {
	low, _ := endsOfNode(w, who)
	return slices.ContainsFunc(w.Given, func(l impl.Lease) bool { return l.Who != who && l.Until >= low })
}

func modelAsk(w impl.Watch, who int, long int) (impl.Watch, bool) {
	if !watches(w, who) || !isWithin(long, 1, longest) || modelBlocked(w, who) {
		return impl.Watch{}, false
	}
	low, high := endsOfNode(w, who)
	return judgedWatch(further(w, lease(who, low, high+long)))
}

func modelHolds(w impl.Watch, who int) (bool, bool) {
	if !watches(w, who) {
		return false, false
	}
	_, high := endsOfNode(w, who)
	return slices.ContainsFunc(w.Given, func(l impl.Lease) bool { return l.Who == who && isWithin(high, l.From, l.Until) }), true
}

func modelGive(w impl.Watch, who int) (impl.Watch, bool) {
	if holds, _ := modelHolds(w, who); !holds {
		return impl.Watch{}, false
	}
	w = cloneWatch(w)
	low, _ := endsOfNode(w, who)
	for i, l := range w.Given {
		if l.Who == who && l.Until >= low {
			w.Given[i].Until = low - 1
		}
	}
	return w, true
}

func modelHolders(w impl.Watch) ([]int, bool) {
	var l []int
	for who := range w.Clocks {
		if holds, _ := modelHolds(w, who); holds {
			l = append(l, who)
		}
	}
	return l, isWatch(w)
}

// modelFree lets the time pass until the node is not blocked. Most of the way it passes in one step, so that this does not take long.
func modelFree(w impl.Watch, who int) (int, bool) {
	if !watches(w, who) {
		return 0, false
	}
	start := w.True
	for _, step := range []int{10000, 1000, 100, 10, 1} {
		for w.True <= lastTrue && modelBlocked(passed(w, step-1), who) {
			w = passed(w, step)
		}
	}
	if w.True > lastTrue {
		return 0, false
	}
	return w.True - start, true
}

func modelWatchAct(w impl.Watch, a impl.WatchAct) (impl.Watch, bool) {
	switch a.Kind {
	case asking:
		return modelAsk(w, a.Who, a.By)
	case passing:
		return modelPass(w, a.By)
	case drifting:
		return modelDrift(w, a.Who, a.By)
	case giving:
		return modelGive(w, a.Who)
	}
	return impl.Watch{}, false
}

func modelPlayWatch(w impl.Watch, l []impl.WatchAct) (impl.Watch, bool) {
	if !isWatch(w) || len(l) > mostLeaseActs {
		return impl.Watch{}, false
	}
	for _, a := range l {
		if next, ok := modelWatchAct(w, a); ok {
			w = next
		}
	}
	return w, true
}

func wantWatch(t *testing.T, got impl.Watch, gotOK bool, want impl.Watch, ok bool, name string, arguments ...any) {
	t.Helper()
	if !equalWatch(got, want) || gotOK != ok {
		t.Errorf("%s of %s = %s, %v; want %s, %v", name, short(arguments), short(got), gotOK, short(want), ok)
	}
}

func wantGoodWatch(t *testing.T, w impl.Watch, good bool) {
	t.Helper()
	if impl.GoodWatch(w) != good {
		t.Errorf("GoodWatch(%s) is %v", short(w), !good)
	}
}

func wantNewWatch(t *testing.T, clocks []impl.Clock, want impl.Watch, ok bool) {
	t.Helper()
	got, gotOK := impl.NewWatch(clocks)
	wantWatch(t, got, gotOK, want, ok, "NewWatch", clocks)
}

func wantPass(t *testing.T, w impl.Watch, by int, want impl.Watch, ok bool) {
	t.Helper()
	got, gotOK := impl.PassTime(w, by)
	wantWatch(t, got, gotOK, want, ok, "PassTime", by, w)
}

func wantDrift(t *testing.T, w impl.Watch, who int, off int, want impl.Watch, ok bool) {
	t.Helper()
	got, gotOK := impl.DriftTo(w, who, off)
	wantWatch(t, got, gotOK, want, ok, "DriftTo", who, off, w)
}

func wantAskLease(t *testing.T, w impl.Watch, who int, long int, want impl.Watch, ok bool) {
	t.Helper()
	got, gotOK := impl.AskLease(w, who, long)
	wantWatch(t, got, gotOK, want, ok, "AskLease", who, long, w)
}

func wantNoLease(t *testing.T, w impl.Watch, who int, long int) {
	t.Helper()
	wantAskLease(t, w, who, long, impl.Watch{}, false)
}

func wantGiveBack(t *testing.T, w impl.Watch, who int, want impl.Watch, ok bool) {
	t.Helper()
	got, gotOK := impl.GiveBack(w, who)
	wantWatch(t, got, gotOK, want, ok, "GiveBack", who, w)
}

func wantHolds(t *testing.T, w impl.Watch, who int, holds bool, ok bool) {
	t.Helper()
	if got, gotOK := impl.HoldsLease(w, who); got != holds || gotOK != ok {
		t.Errorf("HoldsLease(%s, %d) = %v, %v; want %v, %v", short(w), who, got, gotOK, holds, ok)
	}
}

func wantHolders(t *testing.T, w impl.Watch, want []int, ok bool) {
	t.Helper()
	if got, gotOK := impl.HoldersOf(w); !slices.Equal(got, want) || gotOK != ok {
		t.Errorf("HoldersOf(%s) = %v, %v; want %v, %v", short(w), got, gotOK, want, ok)
	}
}

func wantFree(t *testing.T, w impl.Watch, who int, steps int, ok bool) {
	t.Helper()
	if got, gotOK := impl.WhenFree(w, who); got != steps || gotOK != ok {
		t.Errorf("WhenFree(%s, %d) = %d, %v; want %d, %v", short(w), who, got, gotOK, steps, ok)
	}
}

func wantPlayWatch(t *testing.T, w impl.Watch, l []impl.WatchAct, want impl.Watch, ok bool) {
	t.Helper()
	got, gotOK := impl.PlayWatch(w, l)
	wantWatch(t, got, gotOK, want, ok, "PlayWatch", l, w)
}

// wantNothingOf checks that no function takes this node, or none of this table.
func wantNothingOf(t *testing.T, w impl.Watch, who int) {
	t.Helper()
	wantDrift(t, w, who, 0, impl.Watch{}, false)
	wantNoLease(t, w, who, 1)
	wantGiveBack(t, w, who, impl.Watch{}, false)
	wantHolds(t, w, who, false, false)
	wantFree(t, w, who, 0, false)
}

// wantWatchRefused checks that no function takes this table, with arguments that are right for many others.
func wantWatchRefused(t *testing.T, w impl.Watch) {
	t.Helper()
	wantGoodWatch(t, w, false)
	for who := range 3 {
		wantNothingOf(t, w, who)
	}
	for _, by := range []int{0, 1, 50} {
		wantPass(t, w, by, impl.Watch{}, false)
	}
	wantHolders(t, w, nil, false)
	for _, l := range [][]impl.WatchAct{nil, leaseActs(leaseAct(asking, 0, 1)), leaseActs(leaseAct(passing, 0, 1)), leaseActs(leaseAct(drifting, 0, 0)), leaseActs(leaseAct(0, 0, 0))} {
		wantPlayWatch(t, w, l, impl.Watch{}, false)
	}
}

// mustPlayWatch fails the test at once, so that the rest of it is about a table that is there.
func mustPlayWatch(t *testing.T, w impl.Watch, l ...impl.WatchAct) impl.Watch {
	t.Helper()
	played, ok := impl.PlayWatch(w, l)
	if !ok {
		t.Fatalf("PlayWatch(%s, %v) fails", short(w), l)
	}
	return played
}

// goodWatches meets the limits exactly, and has tables that no actions on a new table lead to.
func goodWatches() []impl.Watch {
	all := clocksOf(-5, -2, 0, 1, 5)
	return []impl.Watch{
		watchOf(0, clocksOf(0)), watchOf(0, clocksOf(5)), watchOf(lastTrue, clocksOf(-5)), watchOf(0, all), watchOf(lastTrue, all), watchAt(0), watchAt(lastTrue), exampleWatch(),
		watchAt(100, manyLeases(mostLeases)...), watchAt(100, manyLeases(mostLeases-1)...), watchOf(lastTrue, all, slices.Repeat(leases(lease(4, latestFrom, latestUntil)), mostLeases)...),
		watchOf(0, clocksOf(0), lease(0, leastEnd, leastEnd)), watchOf(lastTrue, clocksOf(0), lease(0, latestFrom, latestUntil)), watchAt(50, lease(2, leastEnd, latestUntil), lease(1, latestFrom, leastEnd)),
		watchAt(100, lease(0, 100, 120), lease(1, 95, 120), lease(2, 100, 120)), watchAt(100, lease(2, 120, 130), lease(2, 90, 99), lease(2, 95, 120)),
		watchAt(100, lease(0, 130, 120)), watchAt(100, lease(1, 0, 95), lease(1, 0, 94), lease(0, 0, 110), lease(0, 111, 200)), watchAt(lastTrue-30, lease(0, lastTrue-30, lastTrue+19)),
	}
}

// badWatches breaks each rule of a table, by one and by more.
func badWatches() []impl.Watch {
	w := exampleWatch()
	l := []impl.Watch{
		{}, watchOf(100, nil), watchOf(100, nil, lease(0, 100, 120)), watchOf(100, make([]impl.Clock, 6)), watchOf(100, make([]impl.Clock, 1000)),
		watchAt(-1), watchAt(lastTrue + 1), watchAt(math.MinInt), watchAt(math.MaxInt), watchAt(1 << 32), watchAt(-1, w.Given...), watchAt(lastTrue+1, w.Given...),
		givenTo(w, manyLeases(mostLeases+1)...), givenTo(w, manyLeases(1000)...), watchOf(0, clocksOf(0), lease(1, 0, 0)),
	}
	for _, off := range []int{-6, 6, -7, 7, 100, 1 << 32, math.MinInt, math.MaxInt} {
		l = append(l, watchOf(0, clocksOf(off)), withOff(w, 0, off), withOff(w, 1, off), withOff(w, 2, off), watchOf(0, clocksOf(0, 1, 2, 3, off)))
	}
	for _, x := range leases(
		lease(-1, 100, 120), lease(3, 100, 120), lease(5, 100, 120), lease(1<<32, 100, 120), lease(math.MinInt, 100, 120), lease(math.MaxInt, 100, 120),
		lease(0, leastEnd-1, 120), lease(0, latestFrom+1, 120), lease(0, math.MinInt, 120), lease(0, math.MaxInt, 120), lease(0, latestUntil, latestUntil),
		lease(0, 100, leastEnd-1), lease(0, 100, latestUntil+1), lease(0, 100, math.MinInt), lease(0, 100, math.MaxInt), lease(0, 1<<32+100, 1<<32+120),
	) {
		l = append(l, givenTo(w, x), givenTo(w, x, w.Given[0]), givenTo(w, w.Given[0], x, w.Given[0]), further(givenTo(w, manyLeases(mostLeases-1)...), x))
	}
	return l
}

func TestGoodWatch(t *testing.T) {
	for _, w := range goodWatches() {
		wantGoodWatch(t, w, true)
	}
	for _, w := range badWatches() {
		wantWatchRefused(t, w)
	}
}

func TestGoodWatchChecksTheNumberOfClocks(t *testing.T) {
	for n := range 9 {
		w := watchOf(7, make([]impl.Clock, n))
		if n >= 1 && n <= 5 {
			wantGoodWatch(t, w, true)
		} else {
			wantWatchRefused(t, w)
		}
	}
}

func TestGoodWatchChecksEveryClock(t *testing.T) {
	for n := 1; n <= 5; n++ {
		for at := range n {
			for off := -9; off <= 9; off++ {
				wantGoodWatch(t, withOff(watchOf(7, make([]impl.Clock, n)), at, off), isWithin(off, -farthestOff, farthestOff))
			}
		}
	}
}

func TestGoodWatchChecksTheTrueTime(t *testing.T) {
	for _, now := range oddTimes {
		wantGoodWatch(t, watchAt(now), isWithin(now, 0, lastTrue))
		wantGoodWatch(t, watchAt(now, lease(0, 100, 120)), isWithin(now, 0, lastTrue))
	}
}

func TestGoodWatchChecksTheNumberOfLeases(t *testing.T) {
	for _, n := range []int{0, 1, 2, mostLeases - 1, mostLeases} {
		wantGoodWatch(t, watchAt(100, manyLeases(n)...), true)
		wantGoodWatch(t, watchAt(100, make([]impl.Lease, n)...), true)
	}
	for _, n := range []int{mostLeases + 1, mostLeases + 2, 256, 1000} {
		wantWatchRefused(t, watchAt(100, manyLeases(n)...))
		wantWatchRefused(t, watchAt(100, make([]impl.Lease, n)...))
	}
}

func TestGoodWatchChecksEveryLease(t *testing.T) {
	for n := 1; n <= 5; n++ {
		for _, at := range []int{0, 1, 7, mostLeases - 1} {
			with := func(x impl.Lease) impl.Watch {
				l := make([]impl.Lease, mostLeases)
				l[at] = x
				return watchOf(100, make([]impl.Clock, n), l...)
			}
			for who := -2; who < 8; who++ {
				wantGoodWatch(t, with(lease(who, 100, 120)), isWithin(who, 0, n-1))
			}
			for _, end := range append(slices.Clone(oddTimes), leastEnd-1, leastEnd, leastEnd+1, latestFrom-1, latestFrom, latestFrom+1, latestUntil-1, latestUntil, latestUntil+1) {
				wantGoodWatch(t, with(lease(n-1, end, 120)), isWithin(end, leastEnd, latestFrom))
				wantGoodWatch(t, with(lease(n-1, 100, end)), isWithin(end, leastEnd, latestUntil))
			}
		}
	}
}

// TestLeasesMayStandInAnyOrder has tables whose leases do not begin or end one after the other.
func TestLeasesMayStandInAnyOrder(t *testing.T) {
	for _, l := range [][]impl.Lease{
		{lease(0, 100, 120), lease(1, 90, 110)}, {lease(1, 90, 110), lease(0, 100, 120)}, {lease(0, 100, 90)}, {lease(2, 5, 5), lease(2, 5, 5)},
		{lease(0, latestFrom, leastEnd), lease(0, leastEnd, latestUntil)}, {lease(2, 50, 60), lease(1, 40, 70), lease(0, 30, 80)},
	} {
		wantGoodWatch(t, watchAt(100, l...), true)
		wantPass(t, watchAt(100, l...), 3, watchAt(103, l...), true)
	}
}

func TestNewWatch(t *testing.T) {
	for n := 1; n <= 5; n++ {
		for off := -farthestOff; off <= farthestOff; off++ {
			clocks := slices.Repeat(clocksOf(off), n)
			wantNewWatch(t, clocks, watchOf(0, clocks), true)
		}
	}
	wantNewWatch(t, clocksOf(5, -5, 0), watchAt(0), true)
	wantNewWatch(t, clocksOf(-1, 0, 1, 2, 3), watchOf(0, clocksOf(-1, 0, 1, 2, 3)), true)
}

func TestNewWatchChecksTheClocks(t *testing.T) {
	wantNewWatch(t, nil, impl.Watch{}, false)
	wantNewWatch(t, clocksOf(), impl.Watch{}, false)
	for _, n := range []int{6, 7, 8, 256, 257, 1000} {
		wantNewWatch(t, make([]impl.Clock, n), impl.Watch{}, false)
	}
	for n := 1; n <= 5; n++ {
		for at := range n {
			for _, off := range []int{-6, 6, 7, 100, 1 << 32, math.MinInt, math.MaxInt} {
				clocks := make([]impl.Clock, n)
				clocks[at].Off = off
				wantNewWatch(t, clocks, impl.Watch{}, false)
			}
		}
	}
}

func TestPassTime(t *testing.T) {
	w := exampleWatch()
	for _, by := range []int{0, 1, 2, 11, 26, 5000, lastTrue - 101, lastTrue - 100} {
		wantPass(t, w, by, watchAt(100+by, lease(0, 100, 120)), true)
	}
	wantPass(t, watchAt(0), lastTrue, watchAt(lastTrue), true)
	wantPass(t, watchAt(0), lastTrue-1, watchAt(lastTrue-1), true)
	wantPass(t, watchAt(lastTrue), 0, watchAt(lastTrue), true)
}

func TestPassTimeChecksTheTime(t *testing.T) {
	for _, w := range goodWatches() {
		for _, by := range []int{-1, -2, -w.True, lastTrue - w.True + 1, lastTrue + 1, lastTrue + 2, 1 << 32, 1<<32 + 1, math.MaxInt - 1, math.MaxInt, math.MinInt, math.MinInt + 1} {
			if by != 0 {
				wantPass(t, w, by, impl.Watch{}, false)
			}
		}
		last := passed(w, lastTrue-w.True)
		wantPass(t, w, lastTrue-w.True, last, true)
		wantPass(t, last, 1, impl.Watch{}, false)
	}
}

func TestDriftTo(t *testing.T) {
	w := exampleWatch()
	for off := -farthestOff; off <= farthestOff; off++ {
		wantDrift(t, w, 0, off, watchOf(100, clocksOf(off, -5, 0), lease(0, 100, 120)), true)
		wantDrift(t, w, 1, off, watchOf(100, clocksOf(5, off, 0), lease(0, 100, 120)), true)
		wantDrift(t, w, 2, off, watchOf(100, clocksOf(5, -5, off), lease(0, 100, 120)), true)
		wantDrift(t, watchOf(lastTrue, clocksOf(0, 0, 0, 0, 0)), 4, off, watchOf(lastTrue, clocksOf(0, 0, 0, 0, off)), true)
	}
}

func TestDriftToChecksTheNodeAndTheOffset(t *testing.T) {
	for _, w := range goodWatches() {
		for _, who := range []int{math.MinInt, -1, len(w.Clocks), len(w.Clocks) + 1, 1 << 32, math.MaxInt} {
			for _, off := range []int{-farthestOff, 0, farthestOff} {
				wantDrift(t, w, who, off, impl.Watch{}, false)
			}
		}
		for who := range w.Clocks {
			wantDrift(t, w, who, -farthestOff, withOff(w, who, -farthestOff), true)
			wantDrift(t, w, who, farthestOff, withOff(w, who, farthestOff), true)
			for _, off := range []int{math.MinInt, -1 << 32, -7, -farthestOff - 1, farthestOff + 1, 7, 1 << 32, math.MaxInt} {
				wantDrift(t, w, who, off, impl.Watch{}, false)
			}
		}
	}
}

func TestTheExampleOfLeases(t *testing.T) {
	w, ok := impl.AskLease(watchAt(100), 0, 10)
	wantWatch(t, w, ok, exampleWatch(), true, "AskLease")
	wantNoLease(t, w, 1, 10)
	wantFree(t, w, 0, 0, true)
	wantFree(t, w, 1, 31, true)
	wantFree(t, w, 2, 26, true)
	wantHolds(t, passed(w, 10), 0, true, true)
	wantHolds(t, passed(w, 11), 0, false, true)
	wantHolders(t, w, []int{0}, true)
	wantNoLease(t, passed(w, 25), 2, 5)
	wantAskLease(t, passed(w, 26), 2, 5, watchAt(126, lease(0, 100, 120), lease(2, 121, 136)), true)
	back := watchAt(100, lease(0, 100, 99))
	wantGiveBack(t, w, 0, back, true)
	wantGiveBack(t, back, 0, impl.Watch{}, false)
}

func TestAskLeaseFromTheLowerEndUntilBehindTheUpperOne(t *testing.T) {
	for off := -farthestOff; off <= farthestOff; off++ {
		for _, now := range []int{0, 1, 5, 100, 99990, lastTrue - 1, lastTrue} {
			for _, long := range []int{1, 2, 50, longest - 1, longest} {
				w := watchOf(now, clocksOf(3, off))
				wantAskLease(t, w, 1, long, givenTo(w, lease(1, now+off-5, now+off+5+long)), true)
			}
		}
	}
	wantAskLease(t, watchOf(0, clocksOf(-5)), 0, 1, watchOf(0, clocksOf(-5), lease(0, -10, 1)), true)
	wantAskLease(t, watchOf(lastTrue, clocksOf(5)), 0, longest, watchOf(lastTrue, clocksOf(5), lease(0, lastTrue, lastTrue+110)), true)
}

func TestAskLeaseChecksTheNodeAndTheLength(t *testing.T) {
	for _, w := range []impl.Watch{watchAt(0), watchAt(100), watchAt(lastTrue), watchAt(100, lease(0, 90, 94)), watchOf(100, clocksOf(0))} {
		for _, who := range []int{math.MinInt, -2, -1, len(w.Clocks), len(w.Clocks) + 1, 256, 1 << 32, math.MaxInt} {
			for _, long := range []int{1, 10, longest} {
				wantNoLease(t, w, who, long)
			}
		}
		for _, long := range []int{math.MinInt, -1 << 32, -100, -1, 0, longest + 1, longest + 2, 256, 1 << 32, 1<<32 + 1, math.MaxInt - lastTrue, math.MaxInt} {
			wantNoLease(t, w, 0, long)
		}
		for _, long := range []int{1, longest} {
			if _, ok := impl.AskLease(w, 0, long); !ok {
				t.Errorf("AskLease(%v, 0, %d) fails", w, long)
			}
		}
	}
}

// TestAskLeaseWaitsForLeasesOfOtherNodes has leases that end next to the lower end, wherever they begin.
func TestAskLeaseWaitsForLeasesOfOtherNodes(t *testing.T) {
	for off := -farthestOff; off <= farthestOff; off++ {
		for _, now := range []int{0, 4, 100, lastTrue - 2, lastTrue} {
			low, high := now+off-5, now+off+5
			for _, from := range []int{leastEnd, 0, low - 1, low, high, high + 1, latestFrom} {
				for until := low - 3; until <= high+3; until++ {
					w := watchOf(now, clocksOf(0, off, 2), lease(2, from, until))
					if until < low {
						wantAskLease(t, w, 1, 7, further(w, lease(1, low, high+7)), true)
					} else {
						wantNoLease(t, w, 1, 7)
					}
				}
			}
		}
	}
	// Node 0 of W shows 105, node 1 95 and node 2 100: the lower ends are 100, 90 and 95.
	for who, low := range []int{100, 90, 95} {
		other := (who + 1) % 3
		for _, until := range []int{leastEnd, low - 2, low - 1} {
			w := watchAt(100, lease(other, 0, until))
			wantAskLease(t, w, who, 1, further(w, lease(who, low, low+11)), true)
		}
		for _, until := range []int{low, low + 1, low + 11, latestUntil} {
			wantNoLease(t, watchAt(100, lease(other, 0, until)), who, 1)
		}
	}
}

// TestAskLeaseLooksAtEveryLease puts the one that is not over at each place.
func TestAskLeaseLooksAtEveryLease(t *testing.T) {
	for at := range mostLeases - 1 {
		w := watchAt(100, manyLeases(mostLeases-1)...)
		wantAskLease(t, w, 2, 5, further(w, lease(2, 95, 110)), true)
		w.Given[at] = lease(at%2, 0, 94)
		wantAskLease(t, w, 2, 5, further(w, lease(2, 95, 110)), true)
		w.Given[at].Until = 95
		wantNoLease(t, w, 2, 5)
		w.Given[at].Who = 2
		wantAskLease(t, w, 2, 5, further(w, lease(2, 95, 110)), true)
	}
}

func TestAskLeaseDoesNotWaitForOwnLeases(t *testing.T) {
	for _, l := range [][]impl.Lease{{lease(0, 100, 120)}, {lease(0, 100, 120), lease(0, 100, 200)}, {lease(0, latestFrom, latestUntil)}, {lease(1, 0, 99), lease(0, 0, 200), lease(2, 0, 99)}} {
		w := watchAt(100, l...)
		wantAskLease(t, w, 0, 30, further(w, lease(0, 100, 140)), true)
		wantNoLease(t, w, 1, 30)
		wantNoLease(t, w, 2, 30)
	}
	w := watchOf(100, clocksOf(0), lease(0, 0, 200))
	wantAskLease(t, w, 0, 1, further(w, lease(0, 95, 106)), true)
}

func TestAskLeaseChecksTheNumberOfLeases(t *testing.T) {
	for n := range mostLeases + 1 {
		w := watchAt(100, manyLeases(n)...)
		for who, low := range []int{100, 90, 95} {
			if n < mostLeases {
				wantAskLease(t, w, who, 1, further(w, lease(who, low, low+11)), true)
			} else {
				wantNoLease(t, w, who, 1)
			}
		}
	}
	own := watchOf(100, clocksOf(0), make([]impl.Lease, mostLeases)...)
	wantNoLease(t, own, 0, 1)
	wantNoLease(t, own, 0, longest)
}

func TestGiveBack(t *testing.T) {
	for off := -farthestOff; off <= farthestOff; off++ {
		for _, now := range []int{0, 3, 100, lastTrue} {
			low, high := now+off-5, now+off+5
			held, over, gone := lease(1, low, high+7), lease(2, low, high+7), lease(1, low, low-1)
			w := watchOf(now, clocksOf(-1, off, 1))
			wantGiveBack(t, givenTo(w, held), 1, givenTo(w, gone), true)
			wantGiveBack(t, givenTo(w, held, over), 1, givenTo(w, gone, over), true)
			// Those that are over already stay; those of the node that are not get the same end, even if they begin later.
			l := leases(lease(1, 0, low-1), over, held, lease(1, 0, low-2), lease(1, high+9, high+20), lease(1, 0, low), lease(0, 0, low), lease(1, 0, low+1), lease(1, 0, latestUntil))
			after := leases(lease(1, 0, low-1), over, gone, lease(1, 0, low-2), lease(1, high+9, low-1), lease(1, 0, low-1), lease(0, 0, low), lease(1, 0, low-1), lease(1, 0, low-1))
			wantGiveBack(t, givenTo(w, l...), 1, givenTo(w, after...), true)
			wantHolds(t, givenTo(w, after...), 1, false, true)
		}
	}
}

func TestGiveBackNeedsALeaseThatIsHeld(t *testing.T) {
	w := exampleWatch()
	for _, who := range []int{math.MinInt, -1, 1, 2, 3, 1 << 32, math.MaxInt} {
		wantGiveBack(t, w, who, impl.Watch{}, false)
	}
	wantGiveBack(t, passed(w, 10), 0, watchAt(110, lease(0, 100, 109)), true)
	wantGiveBack(t, passed(w, 11), 0, impl.Watch{}, false)
	for _, l := range [][]impl.Lease{{}, {lease(0, 100, 99)}, {lease(0, 100, 100)}, {lease(0, 100, 109)}, {lease(0, 111, 120)}, {lease(0, 100, 109), lease(0, 111, 120)}, {lease(1, 100, 120), lease(2, 100, 120)}} {
		wantGiveBack(t, watchAt(100, l...), 0, impl.Watch{}, false)
	}
	wantGiveBack(t, watchAt(100, lease(0, 110, 110)), 0, watchAt(100, lease(0, 110, 99)), true)
}

// TestGiveBackEndsSeveralLeases gives back what two leases, held at the same time, allow.
func TestGiveBackEndsSeveralLeases(t *testing.T) {
	w := mustPlayWatch(t, watchAt(100), leaseAct(asking, 0, 10), leaseAct(passing, 0, 3), leaseAct(asking, 0, 50))
	wantWatch(t, w, true, watchAt(103, lease(0, 100, 120), lease(0, 103, 163)), true, "PlayWatch")
	back := watchAt(103, lease(0, 100, 102), lease(0, 103, 102))
	wantGiveBack(t, w, 0, back, true)
	wantHolds(t, back, 0, false, true)
	wantGiveBack(t, back, 0, impl.Watch{}, false)
	wantFree(t, back, 2, 5, true)
	wantAskLease(t, back, 0, 1, further(back, lease(0, 103, 114)), true)
	// The clock of the node may have drifted since then.
	wantGiveBack(t, withOff(w, 0, -5), 0, watchOf(103, clocksOf(-5, -5, 0), lease(0, 100, 92), lease(0, 103, 92)), true)
	wantGiveBack(t, withOff(passed(w, 12), 0, 5), 0, watchAt(115, lease(0, 100, 114), lease(0, 103, 114)), true)
	wantGiveBack(t, withOff(passed(w, 21), 0, 5), 0, watchAt(124, lease(0, 100, 120), lease(0, 103, 123)), true)
}

// TestGiveBackAtTheLimits has the least end that a lease can get.
func TestGiveBackAtTheLimits(t *testing.T) {
	w := watchOf(0, clocksOf(-5), lease(0, leastEnd, latestUntil))
	wantGiveBack(t, w, 0, watchOf(0, clocksOf(-5), lease(0, leastEnd, -11)), true)
	w = watchOf(lastTrue, clocksOf(5), lease(0, lastTrue, lastTrue+10))
	wantGiveBack(t, w, 0, watchOf(lastTrue, clocksOf(5), lease(0, lastTrue, lastTrue-1)), true)
	full := watchOf(100, clocksOf(0), slices.Repeat(leases(lease(0, 95, 120)), mostLeases)...)
	wantGiveBack(t, full, 0, givenTo(full, slices.Repeat(leases(lease(0, 95, 94)), mostLeases)...), true)
}

func TestHoldsLeaseAtTheUpperEnd(t *testing.T) {
	for off := -farthestOff; off <= farthestOff; off++ {
		for _, now := range []int{0, 7, 100, lastTrue} {
			high := now + off + 5
			for from := high - 12; from <= high+2; from++ {
				for until := high - 12; until <= high+2; until++ {
					w := watchOf(now, clocksOf(off, 0, 0), lease(0, from, until))
					holds := from <= high && high <= until
					wantHolds(t, w, 0, holds, true)
					wantHolds(t, w, 1, false, true)
					wantHolds(t, further(w, lease(0, high+1, high+50)), 0, holds, true)
					wantHolds(t, givenTo(w, lease(0, 0, high-1), lease(0, from, until)), 0, holds, true)
				}
			}
		}
	}
	for _, l := range leases(lease(0, leastEnd, 110), lease(0, leastEnd, latestUntil), lease(0, 110, 110), lease(0, 110, latestUntil)) {
		wantHolds(t, watchAt(100, l), 0, true, true)
	}
	for _, l := range leases(lease(0, leastEnd, 109), lease(0, 111, latestUntil), lease(0, 111, 110), lease(0, 110, 109), lease(0, latestFrom, leastEnd)) {
		wantHolds(t, watchAt(100, l), 0, false, true)
	}
}

// TestHoldsLeaseNeedsOneLease has leases that hold the upper end together, but not one of them.
func TestHoldsLeaseNeedsOneLease(t *testing.T) {
	wantHolds(t, watchAt(100, lease(0, 100, 109), lease(0, 111, 120)), 0, false, true)
	wantHolds(t, watchAt(100, lease(0, 111, 120), lease(1, 100, 120), lease(0, 100, 109)), 0, false, true)
	for at := range mostLeases {
		l := slices.Repeat(leases(lease(0, 100, 109), lease(1, 0, 99), lease(0, 111, 120), lease(2, 0, 104)), mostLeases/4)
		wantHolders(t, watchAt(100, l...), nil, true)
		l[at] = lease(0, 110, 110)
		wantHolders(t, watchAt(100, l...), []int{0}, true)
	}
}

func TestHoldsLeaseChecksTheNode(t *testing.T) {
	for _, w := range goodWatches() {
		for _, who := range []int{math.MinInt, -2, -1, len(w.Clocks), len(w.Clocks) + 1, 256, 1 << 32, math.MaxInt} {
			wantNothingOf(t, w, who)
		}
	}
}

func TestHoldersOf(t *testing.T) {
	for _, w := range []impl.Watch{watchAt(0), watchAt(lastTrue), watchOf(5, clocksOf(1)), watchAt(100, lease(0, 100, 109), lease(1, 101, 120), lease(2, 0, 104)), watchAt(100, manyLeases(mostLeases)...)} {
		wantHolders(t, w, nil, true)
	}
	for who := range 3 {
		wantHolders(t, watchAt(100, lease(who, 90, 110)), []int{who}, true)
		wantHolders(t, watchAt(100, lease(0, 0, 9), lease(who, 90, 110), lease(1, 0, 9)), []int{who}, true)
		wantHolders(t, watchAt(100, lease(who, 90, 110), lease(who, 100, 120)), []int{who}, true)
	}
	wantHolders(t, watchOf(5, clocksOf(0), lease(0, 0, 10)), []int{0}, true)
	// No actions on a new table lead to several holders, but the table is valid.
	wantHolders(t, watchAt(100, lease(2, 100, 120), lease(0, 100, 120)), []int{0, 2}, true)
	wantHolders(t, watchOf(100, clocksOf(0, 0, 0, 0, 0), lease(4, 100, 120), lease(1, 100, 120), lease(3, 106, 120), lease(2, 1, 105), lease(1, 1, 200)), []int{1, 2, 4}, true)
	wantHolders(t, watchOf(100, clocksOf(-5, -1, 0, 1, 5), slices.Repeat(leases(lease(4, 0, 200), lease(3, 0, 200), lease(2, 0, 200), lease(1, 0, 200), lease(0, 0, 200)), 8)...), []int{0, 1, 2, 3, 4}, true)
}

func TestWhenFree(t *testing.T) {
	for who := range 3 {
		for _, w := range []impl.Watch{watchAt(0), watchAt(lastTrue), watchAt(100, lease(who, 100, latestUntil)), watchAt(100, manyLeases(mostLeases)...), watchAt(100, lease(who, 9, 900), lease((who+1)%3, 0, 89))} {
			wantFree(t, w, who, 0, true)
		}
	}
	for who, low := range []int{100, 90, 95} {
		other, third := (who+1)%3, (who+2)%3
		for _, x := range []struct {
			l     []impl.Lease
			steps int
		}{
			{leases(lease(other, 0, low-1)), 0}, {leases(lease(other, 0, low)), 1}, {leases(lease(other, 0, low+1)), 2}, {leases(lease(other, 0, low+500)), 501},
			{leases(lease(other, 0, low+5), lease(other, 0, low+30), lease(third, 0, low+20)), 31}, {leases(lease(third, 0, low+30), lease(other, 0, low+5)), 31},
			{leases(lease(other, 0, low+5), lease(third, 0, low+6), lease(who, 0, low+90)), 7}, {leases(lease(who, 0, latestUntil), lease(other, 0, low)), 1},
			{leases(lease(other, latestFrom, low+3), lease(third, low+50, leastEnd)), 4}, {append(manyLeases(mostLeases-1), lease(other, 0, low+9)), 10},
		} {
			wantFree(t, watchAt(100, x.l...), who, x.steps, true)
		}
	}
}

// TestWhenFreeAtTheEndOfTime has leases whose end is past at the last true time, and one step after it.
func TestWhenFreeAtTheEndOfTime(t *testing.T) {
	for off := -farthestOff; off <= farthestOff; off++ {
		last := lastTrue + off - 6 // the lower end is last+1 at the last true time
		for _, now := range []int{0, 1, 100, 50000, lastTrue - 20, lastTrue - 1, lastTrue} {
			w := watchOf(now, clocksOf(off, 0))
			wantFree(t, givenTo(w, lease(1, 0, last)), 0, lastTrue-now, true)
			for _, until := range []int{last + 1, last + 2, lastTrue + 6, latestUntil} {
				wantFree(t, givenTo(w, lease(1, 0, until)), 0, 0, false)
				wantFree(t, givenTo(w, lease(1, 0, until), lease(1, 0, last)), 0, 0, false)
				wantFree(t, givenTo(w, lease(0, 0, until)), 0, 0, true)
			}
		}
	}
}

// TestWhenFreeCountsTheSteps asks again after every step.
func TestWhenFreeCountsTheSteps(t *testing.T) {
	r := rand.New(rand.NewPCG(101, 101))
	for range 300 {
		w := randomWatch(r)
		w.Given = w.Given[:min(len(w.Given), mostLeases-1)]
		for who := range w.Clocks {
			steps, ok := impl.WhenFree(w, who)
			last := lastTrue
			if ok {
				last = w.True + steps
			}
			for now := max(w.True, last-300); now <= last; now++ {
				_, granted := impl.AskLease(passed(w, now-w.True), who, 1)
				if granted != (ok && now == last) {
					t.Fatalf("WhenFree(%v, %d) = %d, %v; AskLease at %d: %v", w, who, steps, ok, now, granted)
				}
			}
		}
	}
}

// TestWhenFreeDoesNotCountTheLeases has a table that has no room for another lease.
func TestWhenFreeDoesNotCountTheLeases(t *testing.T) {
	w := watchAt(100, append(manyLeases(mostLeases-1), lease(0, 0, 100))...)
	wantFree(t, w, 0, 0, true)
	wantFree(t, w, 1, 11, true)
	wantNoLease(t, passed(w, 11), 1, 1)
}

func TestPlayWatchOfEveryKind(t *testing.T) {
	w := watchAt(130, lease(0, 100, 120), lease(2, 121, 160))
	for _, x := range []struct {
		act  impl.WatchAct
		want impl.Watch
	}{
		{leaseAct(asking, 2, 9), further(w, lease(2, 125, 144))}, {leaseAct(asking, 2, longest), further(w, lease(2, 125, 235))}, {leaseAct(asking, 0, 9), w}, {leaseAct(asking, 1, 9), w},
		{leaseAct(asking, 2, 0), w}, {leaseAct(asking, 2, longest+1), w}, {leaseAct(asking, 3, 9), w}, {leaseAct(asking, -1, 9), w},
		{leaseAct(passing, 0, 9), passed(w, 9)}, {leaseAct(passing, 99, 9), passed(w, 9)}, {leaseAct(passing, -1, 1), passed(w, 1)}, {leaseAct(passing, 0, 0), w}, {leaseAct(passing, 0, -1), w},
		{leaseAct(passing, 0, lastTrue-130), passed(w, lastTrue-130)}, {leaseAct(passing, 0, lastTrue-129), w}, {leaseAct(passing, 0, math.MaxInt), w},
		{leaseAct(drifting, 0, -5), withOff(w, 0, -5)}, {leaseAct(drifting, 1, 5), withOff(w, 1, 5)}, {leaseAct(drifting, 2, 0), w}, {leaseAct(drifting, 2, 3), withOff(w, 2, 3)},
		{leaseAct(drifting, 0, -6), w}, {leaseAct(drifting, 0, 6), w}, {leaseAct(drifting, 3, 0), w}, {leaseAct(drifting, -1, 0), w},
		{leaseAct(giving, 2, 0), givenTo(w, lease(0, 100, 120), lease(2, 121, 124))}, {leaseAct(giving, 2, -99), givenTo(w, lease(0, 100, 120), lease(2, 121, 124))},
		{leaseAct(giving, 0, 0), w}, {leaseAct(giving, 1, 5), w}, {leaseAct(giving, 3, 0), w}, {leaseAct(giving, -1, 0), w},
		{leaseAct(0, 2, 1), w}, {leaseAct(5, 2, 1), w}, {leaseAct(-1, 2, 1), w}, {leaseAct(9, 2, 1), w}, {leaseAct(256+asking, 2, 1), w}, {leaseAct(1<<32+passing, 2, 1), w},
		{leaseAct(math.MinInt, 2, 1), w}, {leaseAct(math.MaxInt, 2, 1), w},
	} {
		wantPlayWatch(t, w, leaseActs(x.act), x.want, true)
		refused := leaseActs(leaseAct(0, 2, 1), leaseAct(asking, 1, 1), leaseAct(giving, 1, 1), leaseAct(drifting, 2, 9), leaseAct(passing, 2, -1), leaseAct(5, 2, 1))
		wantPlayWatch(t, w, slices.Concat(refused, leaseActs(x.act, refused[0], refused[2], refused[5])), x.want, true)
	}
}

func TestPlayWatchPerformsInOrder(t *testing.T) {
	w := watchAt(0)
	l := leaseActs(
		leaseAct(passing, 0, 100), leaseAct(asking, 0, 10), leaseAct(passing, 0, 26), leaseAct(asking, 2, 5), leaseAct(drifting, 1, 5), leaseAct(giving, 2, 0), leaseAct(asking, 1, 20),
		leaseAct(passing, 0, 5), leaseAct(asking, 1, 20), leaseAct(drifting, 1, -5), leaseAct(giving, 1, 0), leaseAct(asking, 0, 7),
	)
	want := w
	for i, a := range l {
		wantPlayWatch(t, w, l[:i], want, true)
		next, ok := modelWatchAct(want, a)
		if !ok {
			t.Fatalf("action %d is refused", i)
		}
		want = next
	}
	wantPlayWatch(t, w, l, want, true)
	wantWatch(t, want, true, watchAt(131, lease(0, 100, 120), lease(2, 121, 120), lease(1, 126, 120), lease(1, 131, 120), lease(0, 131, 148)), true, "the actions")
}

func TestPlayWatchChecksTheNumberOfActions(t *testing.T) {
	w := exampleWatch()
	wantPlayWatch(t, w, nil, w, true)
	wantPlayWatch(t, w, leaseActs(), w, true)
	for _, n := range []int{1, 2, mostLeaseActs - 1, mostLeaseActs} {
		wantPlayWatch(t, w, make([]impl.WatchAct, n), w, true)
		wantPlayWatch(t, w, slices.Repeat(leaseActs(leaseAct(passing, 0, 1)), n), passed(w, n), true)
	}
	for _, n := range []int{mostLeaseActs + 1, mostLeaseActs + 2, 1000} {
		wantPlayWatch(t, w, make([]impl.WatchAct, n), impl.Watch{}, false)
		wantPlayWatch(t, w, slices.Repeat(leaseActs(leaseAct(passing, 0, 1)), n), impl.Watch{}, false)
	}
}

func TestPlayWatchGoesOnAtTheLimits(t *testing.T) {
	w := watchAt(lastTrue - 2)
	l := slices.Concat(slices.Repeat(leaseActs(leaseAct(passing, 0, 1)), 5), slices.Repeat(leaseActs(leaseAct(asking, 0, longest)), mostLeases+5), leaseActs(leaseAct(giving, 0, 0), leaseAct(asking, 0, 1)))
	wantPlayWatch(t, w, l, watchAt(lastTrue, slices.Repeat(leases(lease(0, lastTrue, lastTrue-1)), mostLeases)...), true)
}

// randomWatch is a valid table, mostly one that no actions on a new one lead to; its leases begin and end near the true time.
func randomWatch(r *rand.Rand) impl.Watch {
	w := impl.Watch{True: []int{0, 3, 100, 5000, lastTrue - 40, lastTrue - 3, lastTrue}[r.IntN(7)]}
	for range 1 + r.IntN(5) {
		w.Clocks = append(w.Clocks, clock(r.IntN(11)-5))
	}
	for range []int{0, 1, 2, 5, mostLeases - 1, mostLeases}[r.IntN(6)] {
		from, until := w.True+r.IntN(40)-25, w.True+r.IntN(60)-40
		w.Given = append(w.Given, lease(r.IntN(len(w.Clocks)), min(max(from, leastEnd), latestFrom), max(until, leastEnd)))
	}
	return w
}

func randomWatchAct(r *rand.Rand, w impl.Watch) impl.WatchAct {
	a := leaseAct(r.IntN(6), r.IntN(len(w.Clocks)+2)-1, r.IntN(longest+3)-1)
	switch {
	case a.Kind == drifting:
		a.By = r.IntN(13) - 6
	case a.Kind == passing || r.IntN(2) == 0:
		a.By = r.IntN(14) - 1
	}
	return a
}

func TestWatchesAgreeWithTheModel(t *testing.T) {
	r := rand.New(rand.NewPCG(102, 102))
	for range 3000 {
		w := randomWatch(r)
		start, l := w, leaseActs()
		for range 1 + r.IntN(20) {
			wantGoodWatch(t, w, true)
			holders, ok := modelHolders(w)
			wantHolders(t, w, holders, ok)
			a := randomWatchAct(r, w)
			holds, ok := modelHolds(w, a.Who)
			wantHolds(t, w, a.Who, holds, ok)
			steps, ok := modelFree(w, a.Who)
			wantFree(t, w, a.Who, steps, ok)
			next, ok := modelWatchAct(w, a)
			switch a.Kind {
			case asking:
				wantAskLease(t, w, a.Who, a.By, next, ok)
			case passing:
				wantPass(t, w, a.By, next, ok)
			case drifting:
				wantDrift(t, w, a.Who, a.By, next, ok)
			case giving:
				wantGiveBack(t, w, a.Who, next, ok)
			}
			if ok {
				w = next
			}
			l = append(l, a)
		}
		wantPlayWatch(t, start, l, w, true)
	}
}

// holderOf returns the only holder of a table, or -1. It looks at the leases as well, so that it does not rely on HoldersOf alone.
func holderOf(t *testing.T, w impl.Watch) int {
	t.Helper()
	holders, ok := impl.HoldersOf(w)
	byModel, _ := modelHolders(w)
	if !ok || !slices.Equal(holders, byModel) {
		t.Fatalf("HoldersOf(%v) = %v, %v; the holders are %v", w, holders, ok, byModel)
	}
	if len(holders) > 1 {
		t.Fatalf("%v hold a lease at the same time: %v", holders, w)
	}
	if len(holders) == 0 {
		return -1
	}
	return holders[0]
}

// leaseAction is any action; the smaller most is, the shorter are the leases and the less time passes.
func leaseAction(r *rand.Rand, nodes int, most int) impl.WatchAct {
	who := r.IntN(nodes)
	switch r.IntN(8) {
	case 0:
		return leaseAct(drifting, who, []int{-5, 5, r.IntN(11) - 5}[r.IntN(3)])
	case 1:
		return leaseAct(giving, who, 0)
	case 2, 3:
		return leaseAct(passing, 0, r.IntN(most))
	case 4:
		return leaseAct(passing, 0, 1)
	}
	return leaseAct(asking, who, 1+r.IntN(most))
}

// TestNoTwoNodesHoldALease does anything in any order on new tables.
func TestNoTwoNodesHoldALease(t *testing.T) {
	r := rand.New(rand.NewPCG(103, 103))
	changes := 0
	for run := range 4000 {
		var clocks []impl.Clock
		for range 2 + run%4 {
			clocks = append(clocks, clock(r.IntN(11)-5))
		}
		w, _ := impl.NewWatch(clocks)
		most, before := []int{2, 4, 12, longest}[r.IntN(4)], -1
		for range 150 {
			w = mustPlayWatch(t, w, leaseAction(r, len(clocks), most))
			now := holderOf(t, w)
			if now != before && now != -1 {
				changes++
				before = now
			}
		}
		wantGoodWatch(t, w, true)
	}
	if changes < 20000 {
		t.Errorf("the holder changed only %d times, which is too few to find two holders", changes)
	}
}

// TestTheNextHolderAsksAtOnce lets every node ask as soon as WhenFree allows, with clocks that are as wrong as they can be and then drift.
func TestTheNextHolderAsksAtOnce(t *testing.T) {
	handovers := 0
	for early := -farthestOff; early <= farthestOff; early++ {
		for late := -farthestOff; late <= farthestOff; late++ {
			for long := 1; long <= longest; long += 11 {
				w := mustPlayWatch(t, watchOf(100, clocksOf(early, late)), leaseAct(asking, 0, long))
				steps, ok := impl.WhenFree(w, 1)
				if !ok {
					t.Fatalf("WhenFree(%v, 1) fails", w)
				}
				for now := range steps + longest {
					x := mustPlayWatch(t, w, leaseAct(passing, 0, now), leaseAct(asking, 1, long))
					if (len(x.Given) == 2) != (now >= steps) {
						t.Fatalf("after %d of %d steps the leases are %v", now, steps, x.Given)
					}
					for off := -farthestOff; off <= farthestOff; off++ {
						holderOf(t, mustPlayWatch(t, x, leaseAct(drifting, 0, off)))
						holderOf(t, mustPlayWatch(t, x, leaseAct(drifting, 1, off)))
					}
					if holderOf(t, x) == 1 {
						handovers++
					}
				}
			}
		}
	}
	if handovers < 10000 {
		t.Errorf("only %d leases were handed over", handovers)
	}
}

// TestLeasesMeetAtOneStep has the tightest case: the holder's clock is slow up to its last moment, and the next one's is fast.
func TestLeasesMeetAtOneStep(t *testing.T) {
	w := mustPlayWatch(t, watchOf(100, clocksOf(-5, 5)), leaseAct(asking, 0, 10))
	wantWatch(t, w, true, watchOf(100, clocksOf(-5, 5), lease(0, 90, 110)), true, "PlayWatch")
	wantHolds(t, passed(w, 10), 0, true, true)
	wantNoLease(t, passed(w, 10), 1, 1)
	wantHolds(t, passed(w, 11), 0, false, true)
	next, _ := impl.AskLease(passed(w, 11), 1, 10)
	wantHolders(t, next, []int{1}, true)
	wantFree(t, w, 1, 11, true)
}

// TestAClockThatDriftsBackDoesNotHoldAgain goes on where another node has the lease already.
func TestAClockThatDriftsBackDoesNotHoldAgain(t *testing.T) {
	w := mustPlayWatch(t, watchOf(100, clocksOf(5, 5)), leaseAct(asking, 0, 10), leaseAct(passing, 0, 11))
	wantHolders(t, w, nil, true)
	wantHolders(t, withOff(w, 0, 4), []int{0}, true) // it may do so as long as no other node has a lease
	wantNoLease(t, w, 1, 10)
	for off := -farthestOff; off <= farthestOff; off++ {
		x := mustPlayWatch(t, w, leaseAct(passing, 0, 10), leaseAct(asking, 1, 10), leaseAct(drifting, 0, off))
		wantHolders(t, x, []int{1}, true)
	}
	back := mustPlayWatch(t, watchOf(100, clocksOf(5, 5)), leaseAct(asking, 0, 10), leaseAct(giving, 0, 0), leaseAct(asking, 1, 10))
	for off := -farthestOff; off <= farthestOff; off++ {
		wantHolders(t, withOff(back, 0, off), []int{1}, true)
	}
}
