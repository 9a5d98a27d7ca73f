package tests

import (
	"math"
	"slices"
	"testing"

	"loop.example/g00850/impl"
)

// oddLockTables has valid and invalid tables, around the limits and far from them.
func oddLockTables() [][]impl.Lock {
	l := append(goodLockTables(), badLockTables()...)
	l = append(l, make([]impl.Lock, 1), make([]impl.Lock, mostLocks), make([]impl.Lock, 100000), slices.Repeat(locks(toRead("a", 1)), 100000))
	for _, x := range oddLocks() {
		l = append(l, locks(x), locks(toWrite("a", 1), x), locks(x, toRead("a", 2)), append(fullLocks(mostLocks-1), x))
	}
	return l
}

func oddLocks() []impl.Lock {
	l := append(badLocks(), toRead("a", 1), toWrite("a", 1), toRead("a", 2), toWrite("a", 3), toRead("k0000", lastTxn), toWrite("free", lastTxn))
	for _, s := range oddStrings() {
		l = append(l, toRead(s, 1), toWrite(s, lastTxn))
	}
	for _, txn := range append(slices.Clone(oddInts), oddNumbers...) {
		l = append(l, toRead("a", txn), toWrite("b", txn))
	}
	return l
}

func oddFixed() [][]int {
	l := [][]int{nil, {}, {1}, {2, 1}, {lastTxn, 3, 3}, numbersTo(mostFixed), numbersTo(mostFixed + 1), make([]int, mostFixed), make([]int, 100000), slices.Repeat([]int{1}, 100000), {math.MinInt, math.MaxInt}}
	for _, n := range append(slices.Clone(oddInts), oddNumbers...) {
		l = append(l, []int{n}, []int{1, n}, []int{n, 2})
	}
	return l
}

func TestLockTablesAcceptAllArguments(t *testing.T) {
	for _, l := range oddLockTables() {
		wantGoodLocks(t, l, areLocks(l))
		for _, x := range locks(toRead("a", 1), toWrite("a", 2), toWrite("free", lastTxn), impl.Lock{}, toRead("k0000", 1)) {
			waits, ok := modelWaitsFor(l, x)
			wantWaits(t, l, x, waits, ok)
			taken, ok := modelTake(l, x)
			wantTake(t, l, x, taken, ok)
			for _, fixed := range [][]int{nil, {1}, {lastTxn + 1}} {
				end, wounded, ok := modelAskLock(l, fixed, x)
				wantAskLock(t, l, fixed, x, end, wounded, ok)
			}
		}
		for _, txn := range []int{math.MinInt, 0, 1, 2, lastTxn, lastTxn + 1, math.MaxInt} {
			others, own, ok := modelFreeAndOf(l, txn)
			wantFreeAndOf(t, l, txn, others, own, ok)
		}
	}
}

func TestLocksAcceptAllArguments(t *testing.T) {
	for _, l := range [][]impl.Lock{nil, {toRead("a", 2)}, {toWrite("a", 2), toRead("b", 3)}, fullLocks(mostLocks), fullLocks(mostLocks + 1)} {
		for _, x := range oddLocks() {
			waits, ok := modelWaitsFor(l, x)
			wantWaits(t, l, x, waits, ok)
			taken, ok := modelTake(l, x)
			wantTake(t, l, x, taken, ok)
			others, own, ok := modelFreeAndOf(l, x.Txn)
			wantFreeAndOf(t, l, x.Txn, others, own, ok)
			for _, fixed := range [][]int{nil, {2, 3}, {0}} {
				end, wounded, ok := modelAskLock(l, fixed, x)
				wantAskLock(t, l, fixed, x, end, wounded, ok)
			}
		}
		for _, fixed := range oddFixed() {
			for _, x := range locks(toWrite("a", 1), toRead("a", 9), impl.Lock{}) {
				end, wounded, ok := modelAskLock(l, fixed, x)
				wantAskLock(t, l, fixed, x, end, wounded, ok)
			}
		}
	}
}

func TestFindRingAcceptsAllArguments(t *testing.T) {
	all := [][][]int{nil, {}, {nil}, make([][]int, mostWaiters), make([][]int, 100000), rimOf(100000), slices.Repeat([][]int{{0}}, 100000)}
	for _, v := range append(slices.Clone(oddInts), oddNumbers...) {
		all = append(all, [][]int{{v}}, [][]int{{1, v}, {v}}, [][]int{{}, {v, 0}, {v, v, 1}}, append(rimOf(mostWaiters-1), []int{v, 3}), append(rimOf(mostWaiters), []int{v}))
		all = append(all, [][]int{slices.Repeat([]int{v}, 100000)}, [][]int{slices.Repeat([]int{1}, 100000), {1, v}})
	}
	long := make([][]int, mostWaiters)
	for v := range long {
		for i := range 100000 {
			long[v] = append(long[v], (i*7+v)%mostWaiters)
		}
	}
	for _, waits := range append(all, long, append(slices.Clone(long), nil)) {
		ring, ok := modelRing(waits)
		wantRing(t, waits, ring, ok)
	}
}

// crowdedLocks has locks behind its length that belong to a valid table, too, and would be noticed.
func crowdedLocks() []impl.Lock {
	return locks(toRead("a", 5), toWrite("b", 2), toRead("a", 3), toRead("c", 4), toRead("a", 4), toRead("c", 2), toWrite("d", 5))[:4]
}

// crowdedFixed has fixed transactions behind its length.
func crowdedFixed() []int {
	return []int{9, 2, 7, 5, 3, 0, 4}[:3]
}

// crowdedWaits has ends of lists and lists behind the length, which would make a smaller ring.
func crowdedWaits() [][]int {
	first := func(n int, l ...int) []int { return l[:n] }
	return [][]int{first(1, 1, 0, 0), first(2, 3, 2, 0, 1), first(2, 4, 3, 0), first(1, 2, 3, 1), first(1, 2, 4), {0}, {5}}[:5]
}

// wholeLocking returns all slices of these arguments with what is behind their lengths.
func wholeLocking(l []impl.Lock, fixed []int, waits [][]int) []heldSlice {
	held := []heldSlice{sliceOf[impl.Lock](l[:cap(l)]), sliceOf[int](fixed[:cap(fixed)])}
	for _, list := range waits[:cap(waits)] {
		held = append(held, sliceOf[int](list[:cap(list)]))
	}
	return append(held, sliceOf[[]int](waits[:cap(waits)]))
}

func TestLocksNeitherChangeNorReadBehindTheirArguments(t *testing.T) {
	l, fixed, waits := crowdedLocks(), crowdedFixed(), crowdedWaits()
	before := textsOf(wholeLocking(l, fixed, waits))
	alone := slices.Clone(l)
	for range 2 {
		wantGoodLocks(t, l, true)
		for txn := range lastTxn + 2 {
			others, own, ok := modelFreeAndOf(alone, txn)
			wantFreeAndOf(t, l, txn, others, own, ok)
			for _, x := range locks(toRead("a", txn), toWrite("a", txn), toRead("b", txn), toWrite("b", txn), toRead("c", txn), toWrite("c", txn), toRead("d", txn)) {
				blocked, ok := modelWaitsFor(alone, x)
				wantWaits(t, l, x, blocked, ok)
				taken, ok := modelTake(alone, x)
				wantTake(t, l, x, taken, ok)
				end, wounded, ok := modelAskLock(alone, slices.Clone(fixed), x)
				wantAskLock(t, l, fixed, x, end, wounded, ok)
			}
		}
		wantRing(t, waits, []int{2, 3}, true)
		if now := textsOf(wholeLocking(l, fixed, waits)); !slices.Equal(now, before) {
			t.Fatalf("the arguments become %v, before %v", now, before)
		}
	}
}

// resultsOfLocking returns every slice of the results of all functions for these arguments.
func resultsOfLocking(t *testing.T, l []impl.Lock, fixed []int, waits [][]int) []heldSlice {
	t.Helper()
	var results []heldSlice
	add := func(name string, ok bool, x heldSlice) {
		t.Helper()
		if !ok {
			t.Fatalf("%s fails", name)
		}
		results = append(results, x)
	}
	for _, x := range locks(toWrite("a", 1), toRead("b", 1), toWrite("c", 1)) {
		blocked, ok := impl.WaitsFor(l, x)
		add("WaitsFor", ok, sliceOf[int](blocked))
		_, wounded, ok := impl.AskLock(l, fixed[:1], x)
		add("AskLock", ok, sliceOf[int](wounded))
	}
	for _, x := range locks(toRead("a", 5), toRead("b", 2), toWrite("b", 2), toWrite("c", 4), toRead("c", 1), toWrite("d", 1)) {
		taken, ok := impl.TakeLock(l, x)
		add("TakeLock", ok, sliceOf[impl.Lock](taken))
	}
	for _, txn := range []int{2, 3, 4, 5, 6} {
		others, ok := impl.FreeLocks(l, txn)
		add("FreeLocks", ok, sliceOf[impl.Lock](others))
		own, ok := impl.LocksOf(l, txn)
		add("LocksOf", ok, sliceOf[impl.Lock](own))
	}
	ring, ok := impl.FindRing(waits)
	add("FindRing", ok, sliceOf[int](ring))
	ring, ok = impl.FindRing(waits[len(waits):cap(waits)][:1])
	add("FindRing", ok, sliceOf[int](ring))
	return results
}

func TestResultsOfLocksAreNewMemory(t *testing.T) {
	l, fixed, waits := crowdedLocks(), crowdedFixed(), crowdedWaits()
	results := append(resultsOfLocking(t, l, fixed, waits), resultsOfLocking(t, l, fixed, waits)...)
	wantNewMemory(t, results, wholeLocking(l, fixed, waits))
}

func TestResultsOfLocksOutliveTheirArguments(t *testing.T) {
	l, fixed, waits := crowdedLocks(), crowdedFixed(), crowdedWaits()
	results := resultsOfLocking(t, l, fixed, waits)
	before := textsOf(results)
	for _, x := range wholeLocking(l, fixed, waits) {
		x.spoil()
	}
	if now := textsOf(results); !slices.Equal(now, before) {
		t.Errorf("the results become %v with the arguments", now)
	}
}

// TestAppendingToOneTableOfLocksChangesNoOther appends where a result might have room that another one uses.
func TestAppendingToOneTableOfLocksChangesNoOther(t *testing.T) {
	l, fixed, waits := crowdedLocks(), crowdedFixed(), crowdedWaits()
	before := textsOf(wholeLocking(l, fixed, waits))
	first, _ := impl.TakeLock(l, toRead("a", 4))
	second, _ := impl.TakeLock(first, toRead("c", 5))
	third, _ := impl.TakeLock(first, toRead("c", 6))
	others, _ := impl.FreeLocks(l, lastTxn)
	own, _ := impl.LocksOf(l[:1], 5)
	all := [][]impl.Lock{first, second, third, others, own}
	var results []heldSlice
	for _, x := range all {
		results = append(results, sliceOf[impl.Lock](x))
	}
	now := textsOf(results)
	for _, x := range all {
		_ = append(x, toWrite("z", 9), toWrite("z", 9))
	}
	blocked, _ := impl.WaitsFor(l, toWrite("a", 1))
	ring, _ := impl.FindRing(waits)
	_, _ = append(blocked, 9, 9), append(ring, 9, 9)
	if after := textsOf(results); !slices.Equal(after, now) {
		t.Errorf("the results become %v, before %v", after, now)
	}
	if now := textsOf(wholeLocking(l, fixed, waits)); !slices.Equal(now, before) {
		t.Errorf("the arguments become %v, before %v", now, before)
	}
}

func TestLocksDoNotDependOnEarlierCalls(t *testing.T) {
	l, fixed, waits := crowdedLocks(), crowdedFixed(), crowdedWaits()
	before := textsOf(resultsOfLocking(t, l, fixed, waits))
	for _, odd := range oddLockTables() {
		impl.GoodLocks(odd)
		impl.WaitsFor(odd, toWrite("a", 1))
		impl.AskLock(odd, []int{lastTxn}, toWrite("a", 1))
		impl.TakeLock(odd, toWrite("free", 1))
		impl.FreeLocks(odd, 1)
		impl.LocksOf(odd, 1)
	}
	impl.FindRing(rimOf(mostWaiters))
	impl.FindRing([][]int{{0}, {9}})
	if now := textsOf(resultsOfLocking(t, l, fixed, waits)); !slices.Equal(now, before) {
		t.Errorf("the results are %v, before %v", now, before)
	}
}
