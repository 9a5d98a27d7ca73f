package tests

import (
	"slices"
	"testing"

	"loop.example/g00850/impl"
)

// oddWatches has valid and invalid tables, around the limits and far from them.
func oddWatches() []impl.Watch {
	w := exampleWatch()
	l := append(goodWatches(), badWatches()...)
	l = append(l, watchOf(100, make([]impl.Clock, 100000)), watchOf(100, make([]impl.Clock, 5), make([]impl.Lease, 100000)...), watchAt(100, manyLeases(100000)...))
	for _, x := range append(slices.Clone(oddTimes), oddNumbers...) {
		l = append(l, watchAt(x), watchAt(x, w.Given...), watchOf(100, clocksOf(x)), withOff(w, 2, x), watchOf(100, clocksOf(0, 0, 0, 0, x), w.Given...), watchOf(x, clocksOf(x), lease(x, x, x)))
		l = append(l, givenTo(w, lease(x, 100, 120)), givenTo(w, lease(0, x, 120)), givenTo(w, lease(0, 100, x)), givenTo(w, lease(1, x, x)), further(w, lease(x, x, x)), further(w, lease(2, 5, x)))
	}
	return l
}

// oddNodes are tried as lengths and offsets, too.
func oddNodes() []int {
	return append(slices.Clone(oddNumbers), -farthestOff-1, -farthestOff, farthestOff+1, longest-1, longest, longest+1)
}

func TestWatchesAcceptAllArguments(t *testing.T) {
	for _, w := range oddWatches() {
		made, ok := judgedWatch(watchOf(0, w.Clocks))
		wantNewWatch(t, w.Clocks, made, ok)
		if !isWatch(w) {
			wantWatchRefused(t, w)
			continue
		}
		wantGoodWatch(t, w, true)
		holders, ok := modelHolders(w)
		wantHolders(t, w, holders, ok)
	}
}

func TestPassTimeAcceptsAllArguments(t *testing.T) {
	for _, w := range oddWatches() {
		for _, by := range append(slices.Clone(oddTimes), oddNumbers...) {
			want, ok := modelPass(w, by)
			wantPass(t, w, by, want, ok)
		}
	}
}

func TestNodesWithLeasesAcceptAllArguments(t *testing.T) {
	for _, w := range oddWatches() {
		for _, who := range oddNodes() {
			next, ok := modelGive(w, who)
			wantGiveBack(t, w, who, next, ok)
			holds, ok := modelHolds(w, who)
			wantHolds(t, w, who, holds, ok)
			steps, ok := modelFree(w, who)
			wantFree(t, w, who, steps, ok)
		}
	}
}

func TestAskLeaseAndDriftToAcceptAllArguments(t *testing.T) {
	for _, w := range oddWatches() {
		for _, who := range oddNodes() {
			for _, x := range oddNodes() {
				next, ok := modelAsk(w, who, x)
				wantAskLease(t, w, who, x, next, ok)
				next, ok = modelDrift(w, who, x)
				wantDrift(t, w, who, x, next, ok)
			}
		}
	}
}

func TestPlayWatchAcceptsAllArguments(t *testing.T) {
	for _, w := range goodWatches() {
		for _, kind := range append(slices.Clone(oddNumbers), 7, 8, 9) {
			for _, who := range oddNodes() {
				for _, by := range oddNodes() {
					l := leaseActs(leaseAct(kind, who, by))
					want, ok := modelPlayWatch(w, l)
					wantPlayWatch(t, w, l, want, ok)
				}
			}
		}
	}
	many := slices.Repeat(leaseActs(leaseAct(asking, 0, 1), leaseAct(passing, 0, 1), leaseAct(drifting, 0, 2), leaseAct(giving, 0, 0)), mostLeaseActs)
	for _, w := range oddWatches() {
		for _, n := range []int{0, 3, mostLeaseActs, mostLeaseActs + 1} {
			want, ok := modelPlayWatch(w, many[:n])
			wantPlayWatch(t, w, many[:n], want, ok)
		}
	}
	wantPlayWatch(t, exampleWatch(), make([]impl.WatchAct, 1000000), impl.Watch{}, false)
}

// crowdedWatch returns a table whose slices are parts of longer ones; everything behind them is valid, too, and would be noticed.
func crowdedWatch() impl.Watch {
	clocks := clocksOf(5, -5, 0, 1, 2)
	given := leases(lease(1, 20, 50), lease(0, 100, 120), lease(0, 90, 130), lease(2, 100, 200), lease(1, 95, 150), lease(2, 1, 9))
	return watchOf(100, clocks[:3], given[:3]...)
}

func slicesOfWatch(w impl.Watch) []heldSlice {
	return []heldSlice{sliceOf[impl.Clock](w.Clocks), sliceOf[impl.Lease](w.Given)}
}

// wholeWatch returns the slices of a table, and of actions on it, with all that is behind their lengths.
func wholeWatch(w impl.Watch, l []impl.WatchAct) []heldSlice {
	w.Clocks, w.Given = w.Clocks[:cap(w.Clocks)], w.Given[:cap(w.Given)]
	return append(slicesOfWatch(w), sliceOf[impl.WatchAct](l[:cap(l)]))
}

// crowdedWatchActs are some of the actions of a longer slice.
func crowdedWatchActs() []impl.WatchAct {
	return leaseActs(leaseAct(asking, 0, 10), leaseAct(drifting, 0, 3), leaseAct(giving, 0, 0), leaseAct(passing, 0, 50), leaseAct(asking, 1, 10), leaseAct(asking, 2, 5), leaseAct(giving, 1, 0), leaseAct(passing, 0, 9))[:6]
}

func TestWatchesNeitherChangeNorReadBehindTheirArguments(t *testing.T) {
	w, l := crowdedWatch(), crowdedWatchActs()
	before := textsOf(wholeWatch(w, l))
	alone := cloneWatch(w)
	for range 2 {
		wantGoodWatch(t, w, true)
		wantNewWatch(t, w.Clocks, watchAt(0), true)
		wantPass(t, w, 7, passed(alone, 7), true)
		wantHolders(t, w, []int{0}, true)
		for who := -1; who < 6; who++ {
			next, ok := modelDrift(alone, who, 4)
			wantDrift(t, w, who, 4, next, ok)
			next, ok = modelAsk(alone, who, 9)
			wantAskLease(t, w, who, 9, next, ok)
			next, ok = modelGive(alone, who)
			wantGiveBack(t, w, who, next, ok)
			holds, ok := modelHolds(alone, who)
			wantHolds(t, w, who, holds, ok)
			steps, ok := modelFree(alone, who)
			wantFree(t, w, who, steps, ok)
		}
		for i := range len(l) + 1 {
			next, ok := modelPlayWatch(alone, l[:i])
			wantPlayWatch(t, w, l[:i], next, ok)
		}
		if now := textsOf(wholeWatch(w, l)); !slices.Equal(now, before) {
			t.Fatalf("the arguments become %v, before %v", now, before)
		}
	}
}

// resultsOfWatch returns every slice of the results of all functions for this table.
func resultsOfWatch(t *testing.T, w impl.Watch, l []impl.WatchAct) []heldSlice {
	t.Helper()
	var results []heldSlice
	add := func(name string, w impl.Watch, ok bool) {
		t.Helper()
		if !ok {
			t.Fatalf("%s fails", name)
		}
		results = append(results, slicesOfWatch(w)...)
	}
	made, ok := impl.NewWatch(w.Clocks)
	add("NewWatch", made, ok)
	for _, x := range []impl.Watch{w, givenTo(w, w.Given[1]), passed(w, 5)} {
		for _, by := range []int{0, 9} {
			later, ok := impl.PassTime(x, by)
			add("PassTime", later, ok)
		}
		for who := range x.Clocks {
			for _, off := range []int{x.Clocks[who].Off, 4} {
				drifted, ok := impl.DriftTo(x, who, off)
				add("DriftTo", drifted, ok)
			}
		}
		asked, ok := impl.AskLease(x, 0, 9)
		add("AskLease", asked, ok)
		given, ok := impl.GiveBack(x, 0)
		add("GiveBack", given, ok)
		holders, ok := impl.HoldersOf(x)
		if !ok || len(holders) == 0 {
			t.Fatalf("HoldersOf returns %v, %v", holders, ok)
		}
		results = append(results, sliceOf[int](holders))
		for _, a := range [][]impl.WatchAct{nil, {}, leaseActs(leaseAct(0, 0, 0)), leaseActs(leaseAct(asking, 1, 1)), leaseActs(leaseAct(passing, 0, 0)), leaseActs(l[0], l[0]), l} {
			played, ok := impl.PlayWatch(x, a)
			add("PlayWatch", played, ok)
		}
	}
	return results
}

func TestResultsOfWatchesAreNewMemory(t *testing.T) {
	w, l := crowdedWatch(), crowdedWatchActs()
	results := append(resultsOfWatch(t, w, l), resultsOfWatch(t, w, l)...)
	wantNewMemory(t, results, wholeWatch(w, l))
}

func TestResultsOfWatchesOutliveTheirArguments(t *testing.T) {
	w, l := crowdedWatch(), crowdedWatchActs()
	results := resultsOfWatch(t, w, l)
	before := textsOf(results)
	for _, x := range wholeWatch(w, l) {
		x.spoil()
	}
	if now := textsOf(results); !slices.Equal(now, before) {
		t.Errorf("the results become %v with the arguments", now)
	}
}

// TestAppendingToOneSliceOfAWatchChangesNoOther appends where a result might have room that another one uses.
func TestAppendingToOneSliceOfAWatchChangesNoOther(t *testing.T) {
	w, l := crowdedWatch(), crowdedWatchActs()
	before := textsOf(wholeWatch(w, l))
	made, _ := impl.NewWatch(w.Clocks)
	later, _ := impl.PassTime(w, 0)
	drifted, _ := impl.DriftTo(w, 1, 2)
	asked, _ := impl.AskLease(w, 0, 9)
	again, _ := impl.AskLease(asked, 0, 8)
	given, _ := impl.GiveBack(w, 0)
	played, _ := impl.PlayWatch(w, nil)
	all := []impl.Watch{made, later, drifted, asked, again, given, played}
	var results []heldSlice
	for _, x := range all {
		results = append(results, slicesOfWatch(x)...)
	}
	now := textsOf(results)
	for _, x := range all {
		_ = append(x.Clocks, clock(9), clock(9))
		_ = append(x.Given, lease(9, 9, 9), lease(9, 9, 9))
	}
	if after := textsOf(results); !slices.Equal(after, now) {
		t.Errorf("the results become %v, before %v", after, now)
	}
	if now := textsOf(wholeWatch(w, l)); !slices.Equal(now, before) {
		t.Errorf("the arguments become %v, before %v", now, before)
	}
}

func TestWatchesDoNotDependOnEarlierCalls(t *testing.T) {
	w, l := crowdedWatch(), crowdedWatchActs()
	before := textsOf(resultsOfWatch(t, w, l))
	for _, odd := range oddWatches() {
		impl.NewWatch(odd.Clocks)
		impl.PassTime(odd, 1)
		impl.DriftTo(odd, 0, 1)
		impl.AskLease(odd, 0, 1)
		impl.GiveBack(odd, 0)
		impl.HoldsLease(odd, 0)
		impl.HoldersOf(odd)
		impl.WhenFree(odd, 0)
		impl.PlayWatch(odd, l)
	}
	if now := textsOf(resultsOfWatch(t, w, l)); !slices.Equal(now, before) {
		t.Errorf("the results are %v, before %v", now, before)
	}
}
