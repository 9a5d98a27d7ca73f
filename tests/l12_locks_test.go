package tests

import (
	"math"
	"math/rand/v2"
	"slices"
	"strings"
	"testing"

	"loop.example/g00850/impl"
)

// The limits are written out, so that a changed constant of the program is noticed.
const (
	mostLocks   = 60
	mostFixed   = 20
	mostWaiters = 20
	lockGiven   = 1
	lockWaits   = 2
	lockWounds  = 3
)

func toRead(key string, txn int) impl.Lock { return impl.Lock{Key: key, Txn: txn} }

func toWrite(key string, txn int) impl.Lock { return impl.Lock{Key: key, Txn: txn, Write: true} }

func locks(l ...impl.Lock) []impl.Lock { return l }

// fullLocks has keys of their own for all its locks.
func fullLocks(n int) []impl.Lock {
	l := make([]impl.Lock, n)
	for i, key := range manyKeys(n) {
		l[i] = impl.Lock{Key: key, Txn: 1 + i%lastTxn, Write: i%2 == 0}
	}
	return l
}

// readersOf has one lock for reading for each transaction.
func readersOf(key string, txns ...int) []impl.Lock {
	var l []impl.Lock
	for _, txn := range txns {
		l = append(l, toRead(key, txn))
	}
	return l
}

func isLock(x impl.Lock) bool {
	return keyForm.MatchString(x.Key) && isWithin(x.Txn, 1, lastTxn)
}

func areLocks(l []impl.Lock) bool {
	if len(l) > mostLocks {
		return false
	}
	readers, writers, holders := map[string]int{}, map[string]int{}, map[impl.Lock]bool{}
	for _, x := range l {
		if x.Write {
			writers[x.Key]++
		} else {
			readers[x.Key]++
		}
		holder := toRead(x.Key, x.Txn)
		if !isLock(x) || holders[holder] || writers[x.Key] > 1 || writers[x.Key] == 1 && readers[x.Key] > 0 {
			return false
		}
		holders[holder] = true
	}
	return true
}

func areTxns(l []int) bool {
	return !slices.ContainsFunc(l, func(txn int) bool { return !isWithin(txn, 1, lastTxn) })
}

func modelWaitsFor(l []impl.Lock, x impl.Lock) ([]int, bool) {
	var txns []int
	for txn := 1; txn <= lastTxn; txn++ {
		reads, writes := slices.Contains(l, toRead(x.Key, txn)), slices.Contains(l, toWrite(x.Key, txn))
		if txn != x.Txn && (writes || reads && x.Write) {
			txns = append(txns, txn)
		}
	}
	if !areLocks(l) || !isLock(x) {
		return nil, false
	}
	return txns, true
}

func modelAskLock(l []impl.Lock, fixed []int, x impl.Lock) (int, []int, bool) {
	waits, ok := modelWaitsFor(l, x)
	if !ok || len(fixed) > mostFixed || !areTxns(fixed) {
		return 0, nil, false
	}
	end := lockGiven
	for _, txn := range waits {
		if end != lockWaits {
			end = lockWounds
		}
		if txn < x.Txn || slices.Contains(fixed, txn) {
			end = lockWaits
		}
	}
	if end != lockWounds {
		waits = nil
	}
	return end, waits, true
}

func modelTake(l []impl.Lock, x impl.Lock) ([]impl.Lock, bool) {
	if waits, ok := modelWaitsFor(l, x); !ok || len(waits) > 0 {
		return nil, false
	}
	taken := slices.Clone(l)
	for i, held := range l {
		if held.Key == x.Key && held.Txn == x.Txn {
			if x.Write {
				taken[i] = x
			}
			return taken, true
		}
	}
	taken = append(taken, x)
	if len(taken) > mostLocks {
		return nil, false
	}
	return taken, true
}

// modelFreeAndOf returns the locks of the others and those of the transaction.
func modelFreeAndOf(l []impl.Lock, txn int) ([]impl.Lock, []impl.Lock, bool) {
	if !areLocks(l) || !areTxns([]int{txn}) {
		return nil, nil, false
	}
	var others, own []impl.Lock
	for _, x := range l {
		if x.Txn == txn {
			own = append(own, x)
		} else {
			others = append(others, x)
		}
	}
	return others, own, true
}

func isWaitGraph(waits [][]int) bool {
	for _, l := range waits {
		if slices.ContainsFunc(l, func(v int) bool { return !isWithin(v, 0, len(waits)-1) }) {
			return false
		}
	}
	return len(waits) <= mostWaiters
}

// modelRing counts steps back to the start: leads[n][v] tells whether n steps lead from v there.
func modelRing(waits [][]int) ([]int, bool) {
	if !isWaitGraph(waits) {
		return nil, false
	}
	many := len(waits)
	for start := range many {
		leads := [][]bool{make([]bool, many)}
		leads[0][start] = true
		for n := 1; n <= many; n++ {
			leads = append(leads, make([]bool, many))
			for v := range many {
				leads[n][v] = slices.ContainsFunc(waits[v], func(next int) bool { return leads[n-1][next] })
			}
			if !leads[n][start] {
				continue
			}
			ring := []int{start}
			for left := n - 1; left > 0; left-- {
				v := slices.Index(leads[left], true)
				for !leads[left][v] || !slices.Contains(waits[ring[len(ring)-1]], v) {
					v++
				}
				ring = append(ring, v)
			}
			return ring, true
		}
	}
	return nil, false
}

func wantGoodLocks(t *testing.T, l []impl.Lock, good bool) {
	t.Helper()
	if impl.GoodLocks(l) != good {
		t.Errorf("GoodLocks(%s) is %v", short(l), !good)
	}
}

func wantWaits(t *testing.T, l []impl.Lock, x impl.Lock, want []int, ok bool) {
	t.Helper()
	got, gotOK := impl.WaitsFor(l, x)
	if !slices.Equal(got, want) || gotOK != ok {
		t.Errorf("WaitsFor(%s, %v) = %v, %v; want %v, %v", short(l), x, got, gotOK, want, ok)
	}
}

func wantAskLock(t *testing.T, l []impl.Lock, fixed []int, x impl.Lock, end int, want []int, ok bool) {
	t.Helper()
	gotEnd, got, gotOK := impl.AskLock(l, fixed, x)
	if gotEnd != end || !slices.Equal(got, want) || gotOK != ok {
		t.Errorf("AskLock(%s, %s, %v) = %d, %v, %v; want %d, %v, %v", short(l), short(fixed), x, gotEnd, got, gotOK, end, want, ok)
	}
}

func wantTake(t *testing.T, l []impl.Lock, x impl.Lock, want []impl.Lock, ok bool) {
	t.Helper()
	got, gotOK := impl.TakeLock(l, x)
	if !slices.Equal(got, want) || gotOK != ok {
		t.Errorf("TakeLock(%s, %v) = %s, %v; want %s, %v", short(l), x, short(got), gotOK, short(want), ok)
	}
}

// wantFreeAndOf compares what FreeLocks leaves and what LocksOf returns.
func wantFreeAndOf(t *testing.T, l []impl.Lock, txn int, others []impl.Lock, own []impl.Lock, ok bool) {
	t.Helper()
	got, gotOK := impl.FreeLocks(l, txn)
	if !slices.Equal(got, others) || gotOK != ok {
		t.Errorf("FreeLocks(%s, %d) = %s, %v; want %s, %v", short(l), txn, short(got), gotOK, short(others), ok)
	}
	got, gotOK = impl.LocksOf(l, txn)
	if !slices.Equal(got, own) || gotOK != ok {
		t.Errorf("LocksOf(%s, %d) = %s, %v; want %s, %v", short(l), txn, short(got), gotOK, short(own), ok)
	}
}

func wantRing(t *testing.T, waits [][]int, want []int, ok bool) {
	t.Helper()
	got, gotOK := impl.FindRing(waits)
	if !slices.Equal(got, want) || gotOK != ok {
		t.Errorf("FindRing(%s) = %v, %v; want %v, %v", short(waits), got, gotOK, want, ok)
	}
}

// wantNoLocking asks all functions for something that they would grant in a valid table.
func wantNoLocking(t *testing.T, l []impl.Lock) {
	t.Helper()
	wantGoodLocks(t, l, false)
	for _, x := range []impl.Lock{toRead("free", 5), toWrite("free", 1), toRead("a", 2), toWrite("k0000", 1)} {
		wantWaits(t, l, x, nil, false)
		wantAskLock(t, l, nil, x, 0, nil, false)
		wantAskLock(t, l, []int{2}, x, 0, nil, false)
		wantTake(t, l, x, nil, false)
		wantFreeAndOf(t, l, x.Txn, nil, nil, false)
	}
}

// wantLockRefused gives an invalid lock to all functions that take one.
func wantLockRefused(t *testing.T, x impl.Lock) {
	t.Helper()
	for _, l := range goodLockTables() {
		wantWaits(t, l, x, nil, false)
		wantAskLock(t, l, nil, x, 0, nil, false)
		wantAskLock(t, l, []int{1, 2}, x, 0, nil, false)
		wantTake(t, l, x, nil, false)
	}
	for _, l := range [][]impl.Lock{{x}, {x, toRead("z", 9)}, append(fullLocks(mostLocks-1), x)} {
		wantNoLocking(t, l)
	}
}

// goodLockTables meets the limits exactly.
func goodLockTables() [][]impl.Lock {
	longest := strings.Repeat("z", mostKey)
	return [][]impl.Lock{
		nil, {}, {toRead("a", 1)}, {toWrite("a", 1)}, {toRead("a", lastTxn)}, {toWrite(longest, lastTxn)}, {toRead("a", 1), toRead("a", 2)}, {toRead("a", 2), toRead("a", 1)},
		{toWrite("b", 1), toWrite("a", 1)}, {toWrite("a", 1), toRead("b", 1), toRead("b", 2), toWrite("c", 2)}, {toRead("a", 3), toWrite("aa", 3), toWrite("a/", 4), toWrite("./", 4)},
		fullLocks(mostLocks - 1), fullLocks(mostLocks), readersOf("a", numbersTo(lastTxn)...), {toRead("a", 5), toRead("a", 3), toRead("b", 5), toRead("a", 9), toRead("b", 1)},
	}
}

// numbersTo counts from 1.
func numbersTo(n int) []int {
	var l []int
	for i := range n {
		l = append(l, i+1)
	}
	return l
}

func badLocks() []impl.Lock {
	l := []impl.Lock{{}, {Write: true}}
	for _, key := range badKeys() {
		l = append(l, toRead(key, 1), toWrite(key, lastTxn))
	}
	for _, txn := range []int{0, lastTxn + 1, -1, -lastTxn, lastTxn + 2, 256 + 1, 1<<32 + 1, math.MinInt, math.MaxInt} {
		l = append(l, toRead("a", txn), toWrite("a", txn))
	}
	return l
}

// badLockTables has locks that are valid each, but not together.
func badLockTables() [][]impl.Lock {
	return [][]impl.Lock{
		fullLocks(mostLocks + 1), fullLocks(mostLocks + 2), fullLocks(1000), append(fullLocks(mostLocks-1), fullLocks(1)...),
		{toRead("a", 1), toRead("a", 1)}, {toWrite("a", 1), toWrite("a", 1)}, {toRead("a", 1), toWrite("a", 1)}, {toWrite("a", 1), toRead("a", 1)},
		{toWrite("a", 1), toRead("a", 2)}, {toRead("a", 1), toWrite("a", 2)}, {toWrite("a", 2), toRead("a", 1)}, {toRead("a", 2), toWrite("a", 1)}, {toWrite("a", 1), toWrite("a", 2)},
		{toRead("a", 1), toRead("b", 1), toRead("a", 1)}, {toRead("b", 1), toRead("a", 2), toRead("a", 3), toWrite("a", 4)}, {toRead("a", 2), toWrite("a", 4), toRead("a", 3)},
		{toWrite("a", 2), toRead("c", 1), toRead("b", 1), toRead("a", 3)}, append(readersOf("a", numbersTo(lastTxn-1)...), toWrite("a", lastTxn)), append(fullLocks(mostLocks-1), toRead("k0000", 60)),
	}
}

func TestGoodLocks(t *testing.T) {
	for _, l := range goodLockTables() {
		wantGoodLocks(t, l, true)
	}
	for _, l := range badLockTables() {
		wantNoLocking(t, l)
	}
	for _, x := range badLocks() {
		wantLockRefused(t, x)
	}
}

func TestGoodLocksChecksTheNumberOfLocks(t *testing.T) {
	for n := range 2*mostLocks + 1 {
		wantGoodLocks(t, fullLocks(n), n <= mostLocks)
	}
}

func TestGoodLocksChecksEveryLock(t *testing.T) {
	for at := range mostLocks {
		for _, x := range badLocks() {
			l := fullLocks(mostLocks)
			l[at] = x
			wantGoodLocks(t, l, false)
		}
		for txn := -2; txn < lastTxn+5; txn++ {
			l := fullLocks(mostLocks)
			l[at].Txn = txn
			wantGoodLocks(t, l, isWithin(txn, 1, lastTxn))
		}
	}
}

// TestGoodLocksChecksEveryPair has two locks on one key among others.
func TestGoodLocksChecksEveryPair(t *testing.T) {
	for i := range 8 {
		for j := range 8 {
			if i == j {
				continue
			}
			for kinds := range 8 {
				l := fullLocks(8)
				l[i] = impl.Lock{Key: "a", Txn: 1, Write: kinds&1 > 0}
				l[j] = impl.Lock{Key: "a", Txn: 1 + kinds>>2, Write: kinds&2 > 0}
				wantGoodLocks(t, l, kinds == 4)
				l[j].Key = "b"
				wantGoodLocks(t, l, true)
			}
		}
	}
}

func TestTheExampleOfLocking(t *testing.T) {
	l := locks(toRead("a", 2))
	wantAskLock(t, l, nil, toRead("a", 3), lockGiven, nil, true)
	wantAskLock(t, l, nil, toWrite("a", 3), lockWaits, nil, true)
	wantAskLock(t, l, nil, toWrite("a", 1), lockWounds, []int{2}, true)
	wantAskLock(t, l, []int{2}, toWrite("a", 1), lockWaits, nil, true)
	wantRing(t, [][]int{{1}, {2}, {1}}, []int{1, 2}, true)
}

func TestWaitsForWithoutAConflict(t *testing.T) {
	for _, x := range locks(toRead("a", 1), toWrite("a", 1), toRead("a", lastTxn), toWrite("a", lastTxn), toWrite(strings.Repeat("a", mostKey), 7)) {
		for _, l := range [][]impl.Lock{nil, {}, {toWrite("b", 2)}, {toRead("b", 2), toWrite("aa", 3)}, fullLocks(mostLocks), {toRead("a", x.Txn)}, {toWrite("a", x.Txn), toWrite("ab", 4)}} {
			wantWaits(t, l, x, nil, true)
		}
	}
	wantWaits(t, readersOf("a", numbersTo(lastTxn)...), toRead("a", 5), nil, true)
	wantWaits(t, readersOf("a", 4, 2, 3), toRead("a", 1), nil, true)
	wantWaits(t, readersOf("a", 4, 2, 3), toRead("a", 2), nil, true)
}

func TestWaitsForConflicts(t *testing.T) {
	for _, l := range [][]impl.Lock{{toWrite("a", 5)}, {toWrite("b", 3), toWrite("a", 5), toRead("c", 9)}} {
		for _, txn := range []int{1, 4, 6, lastTxn} {
			wantWaits(t, l, toRead("a", txn), []int{5}, true)
			wantWaits(t, l, toWrite("a", txn), []int{5}, true)
		}
		wantWaits(t, l, toRead("a", 5), nil, true)
		wantWaits(t, l, toWrite("a", 5), nil, true)
	}
	wantWaits(t, readersOf("a", 5), toWrite("a", 5), nil, true)
	wantWaits(t, readersOf("a", 5), toWrite("a", 4), []int{5}, true)
	wantWaits(t, readersOf("a", 5), toWrite("a", 6), []int{5}, true)
	wantWaits(t, readersOf("a", 5), toRead("a", 6), nil, true)
}

// TestWaitsForIsInIncreasingOrder has locks that are not.
func TestWaitsForIsInIncreasingOrder(t *testing.T) {
	wantWaits(t, readersOf("a", 9, 2, 60, 1, 30), toWrite("a", 10), []int{1, 2, 9, 30, 60}, true)
	wantWaits(t, readersOf("a", 9, 2, 60, 1, 30), toWrite("a", 9), []int{1, 2, 30, 60}, true)
	wantWaits(t, locks(toRead("a", 3), toRead("b", 1), toRead("a", 2), toWrite("c", 4), toRead("b", 5)), toWrite("a", 9), []int{2, 3}, true)
	r := rand.New(rand.NewPCG(121, 121))
	for range 300 {
		var txns []int
		for _, i := range r.Perm(lastTxn)[:r.IntN(lastTxn+1)] {
			txns = append(txns, i+1)
		}
		sorted := slices.Sorted(slices.Values(txns))
		own := 1 + r.IntN(lastTxn)
		others := slices.DeleteFunc(sorted, func(txn int) bool { return txn == own })
		wantWaits(t, readersOf("a", txns...), toWrite("a", own), others, true)
		wantWaits(t, readersOf("a", txns...), toRead("a", own), nil, true)
	}
	all := numbersTo(lastTxn)
	slices.Reverse(all)
	wantWaits(t, readersOf("a", all...), toWrite("a", lastTxn), numbersTo(lastTxn-1), true)
}

func TestAskLockWithOlderAndYoungerHolders(t *testing.T) {
	for holder := 1; holder <= lastTxn; holder++ {
		for txn := 1; txn <= lastTxn; txn++ {
			end, wounded := lockGiven, []int(nil)
			switch {
			case holder < txn:
				end = lockWaits
			case holder > txn:
				end, wounded = lockWounds, []int{holder}
			}
			wantAskLock(t, locks(toWrite("a", holder)), nil, toRead("a", txn), end, wounded, true)
			wantAskLock(t, locks(toWrite("a", holder)), nil, toWrite("a", txn), end, wounded, true)
			wantAskLock(t, locks(toRead("a", holder)), nil, toWrite("a", txn), end, wounded, true)
			wantAskLock(t, locks(toRead("a", holder)), nil, toRead("a", txn), lockGiven, nil, true)
		}
	}
}

func TestAskLockWithSeveralHolders(t *testing.T) {
	l := append(readersOf("a", 8, 3, 5), toWrite("b", 1), toWrite("c", 9))
	wantAskLock(t, l, nil, toWrite("a", 1), lockWounds, []int{3, 5, 8}, true)
	wantAskLock(t, l, nil, toWrite("a", 2), lockWounds, []int{3, 5, 8}, true)
	wantAskLock(t, l, nil, toWrite("a", 3), lockWounds, []int{5, 8}, true)
	for _, txn := range []int{4, 5, 6, 7, 8, 9, lastTxn} {
		wantAskLock(t, l, nil, toWrite("a", txn), lockWaits, nil, true)
		wantAskLock(t, l, nil, toRead("a", txn), lockGiven, nil, true)
	}
	wantAskLock(t, l, []int{8}, toWrite("a", 1), lockWaits, nil, true)
	wantAskLock(t, l, []int{5}, toWrite("a", 1), lockWaits, nil, true)
	wantAskLock(t, l, []int{3}, toWrite("a", 3), lockWounds, []int{5, 8}, true)
	wantAskLock(t, l, []int{3, 8}, toWrite("a", 3), lockWaits, nil, true)
	wantAskLock(t, l, []int{1, 9, 2, 4}, toWrite("a", 1), lockWounds, []int{3, 5, 8}, true)
}

func TestAskLockWithFixedTransactions(t *testing.T) {
	l := locks(toRead("a", 7))
	for _, x := range []struct {
		fixed []int
		end   int
	}{
		{nil, lockWounds}, {[]int{}, lockWounds}, {[]int{6}, lockWounds}, {[]int{8, 6, 1}, lockWounds}, {[]int{lastTxn, lastTxn, 1}, lockWounds}, {[]int{2}, lockWounds},
		{[]int{7}, lockWaits}, {[]int{1, 7}, lockWaits}, {[]int{7, 1}, lockWaits}, {[]int{9, 7, 3}, lockWaits}, {[]int{7, 7, 7}, lockWaits}, {[]int{9, 3, 3, 7, 9}, lockWaits},
		{slices.Repeat([]int{7}, mostFixed), lockWaits}, {slices.Repeat([]int{8}, mostFixed), lockWounds}, {append(slices.Repeat([]int{8}, mostFixed-1), 7), lockWaits}, {numbersTo(mostFixed), lockWaits},
	} {
		var wounded []int
		if x.end == lockWounds {
			wounded = []int{7}
		}
		wantAskLock(t, l, x.fixed, toWrite("a", 2), x.end, wounded, true)
		wantAskLock(t, locks(toWrite("a", 7)), x.fixed, toRead("a", 2), x.end, wounded, true)
		wantAskLock(t, l, x.fixed, toWrite("a", 9), lockWaits, nil, true)
		wantAskLock(t, l, x.fixed, toWrite("a", 7), lockGiven, nil, true)
		wantAskLock(t, l, x.fixed, toRead("a", 2), lockGiven, nil, true)
	}
}

func TestAskLockChecksTheFixedTransactions(t *testing.T) {
	l := locks(toRead("a", 7))
	for _, x := range locks(toWrite("a", 2), toWrite("a", 9), toRead("a", 2), toWrite("b", 1)) {
		for _, fixed := range [][]int{
			make([]int, 1), {0}, {lastTxn + 1}, {-1}, {1, 0}, {0, 1}, {7, lastTxn + 1}, {lastTxn + 1, 7}, {1, 2, -7, 3}, {math.MinInt}, {math.MaxInt}, {256 + 7}, {1<<32 + 7}, {7, 0},
			slices.Repeat([]int{1}, mostFixed+1), slices.Repeat([]int{7}, mostFixed+1), numbersTo(mostFixed + 1), numbersTo(lastTxn), slices.Repeat([]int{7}, 1000), append(numbersTo(mostFixed-1), 0),
		} {
			wantAskLock(t, l, fixed, x, 0, nil, false)
		}
		for at := range mostFixed {
			fixed := slices.Repeat([]int{3}, mostFixed)
			for _, txn := range []int{1, lastTxn} {
				fixed[at] = txn
				end, wounded, ok := modelAskLock(l, fixed, x)
				wantAskLock(t, l, fixed, x, end, wounded, ok)
			}
			for _, txn := range []int{0, lastTxn + 1, -1} {
				fixed[at] = txn
				wantAskLock(t, l, fixed, x, 0, nil, false)
			}
		}
	}
}

func TestTakeLock(t *testing.T) {
	wantTake(t, nil, toRead("a", 1), locks(toRead("a", 1)), true)
	wantTake(t, locks(), toWrite("a", lastTxn), locks(toWrite("a", lastTxn)), true)
	l := locks(toRead("b", 5), toWrite("c", 2), toRead("b", 4))
	for _, x := range locks(toRead("a", 5), toWrite("a", 1), toRead("b", 1), toRead("b", 6), toRead("d", 5), toWrite("d", 2), toWrite("bb", 5)) {
		wantTake(t, l, x, append(slices.Clone(l), x), true)
	}
}

func TestTakeLockOfALockThatTheTransactionHolds(t *testing.T) {
	l := locks(toRead("b", 5), toRead("a", 4), toWrite("c", 5), toRead("b", 4))
	wantTake(t, l, toRead("b", 5), l, true)
	wantTake(t, l, toRead("b", 4), l, true)
	wantTake(t, l, toRead("a", 4), l, true)
	wantTake(t, l, toWrite("a", 4), locks(l[0], toWrite("a", 4), l[2], l[3]), true)
	wantTake(t, l, toWrite("c", 5), l, true)
	wantTake(t, l, toRead("c", 5), l, true)
	// A lock for reading that others hold, too, cannot become one for writing.
	wantTake(t, l, toWrite("b", 5), nil, false)
	wantTake(t, l, toWrite("b", 4), nil, false)
	alone := locks(toRead("b", 5), toRead("a", 4), toWrite("c", 5))
	wantTake(t, alone, toWrite("b", 5), locks(toWrite("b", 5), toRead("a", 4), toWrite("c", 5)), true)
}

func TestTakeLockOfAConflictingRequest(t *testing.T) {
	for _, txn := range []int{1, 3, lastTxn} {
		wantTake(t, locks(toWrite("a", 2)), toRead("a", txn), nil, false)
		wantTake(t, locks(toWrite("a", 2)), toWrite("a", txn), nil, false)
		wantTake(t, locks(toRead("a", 2)), toWrite("a", txn), nil, false)
		wantTake(t, locks(toRead("a", 2), toRead("a", txn)), toWrite("a", txn), nil, false)
		wantTake(t, locks(toRead("a", txn), toRead("a", 2)), toWrite("a", txn), nil, false)
	}
}

func TestTakeLockInAFullTable(t *testing.T) {
	l := fullLocks(mostLocks)
	for _, x := range locks(toRead("free", 1), toWrite("free", 1), toWrite("k", 60), toRead(l[1].Key, 3)) {
		wantTake(t, l, x, nil, false)
		wantTake(t, l[:mostLocks-1], x, append(slices.Clone(l[:mostLocks-1]), x), true)
	}
	for at, x := range l {
		wantTake(t, l, toRead(x.Key, x.Txn), l, true)
		changed := slices.Clone(l)
		changed[at].Write = true
		wantTake(t, l, toWrite(x.Key, x.Txn), changed, true)
		wantTake(t, l, toRead(x.Key, x.Txn%lastTxn+1), nil, false)
	}
}

func TestFreeLocksAndLocksOf(t *testing.T) {
	l := locks(toRead("b", 5), toWrite("a", 4), toRead("b", 1), toWrite("c", 5), toRead("d", 4), toRead("b", 4), toRead("d", 5))
	wantFreeAndOf(t, l, 5, locks(l[1], l[2], l[4], l[5]), locks(l[0], l[3], l[6]), true)
	wantFreeAndOf(t, l, 4, locks(l[0], l[2], l[3], l[6]), locks(l[1], l[4], l[5]), true)
	wantFreeAndOf(t, l, 1, slices.Delete(slices.Clone(l), 2, 3), l[2:3], true)
	for _, txn := range []int{2, 3, 6, 59, lastTxn} {
		wantFreeAndOf(t, l, txn, l, nil, true)
		wantFreeAndOf(t, nil, txn, nil, nil, true)
		wantFreeAndOf(t, locks(toWrite("a", txn)), txn, nil, locks(toWrite("a", txn)), true)
		own := locks(toWrite("b", txn), toRead("a", txn), toWrite("c", txn))
		wantFreeAndOf(t, own, txn, nil, own, true)
		wantFreeAndOf(t, own, 1, own, nil, true)
	}
	full := fullLocks(mostLocks)
	for at, x := range full {
		wantFreeAndOf(t, full, x.Txn, slices.Delete(slices.Clone(full), at, at+1), locks(x), true)
	}
}

func TestFreeLocksAndLocksOfCheckTheTransaction(t *testing.T) {
	for _, l := range goodLockTables() {
		for _, txn := range []int{0, lastTxn + 1, -1, -5, lastTxn + 5, 256 + 5, 1<<32 + 5, math.MinInt, math.MaxInt} {
			wantFreeAndOf(t, l, txn, nil, nil, false)
		}
		for _, txn := range []int{1, lastTxn} {
			others, own, ok := modelFreeAndOf(l, txn)
			wantFreeAndOf(t, l, txn, others, own, ok)
		}
	}
}

// statesOfKey returns all ways in which three transactions can hold locks on a key.
func statesOfKey(key string) [][]impl.Lock {
	states := [][]impl.Lock{{toWrite(key, 1)}, {toWrite(key, 2)}, {toWrite(key, 3)}}
	for chosen := range 8 {
		var l []impl.Lock
		for txn := 3; txn >= 1; txn-- {
			if chosen&(1<<txn>>1) > 0 {
				l = append(l, toRead(key, txn))
			}
		}
		states = append(states, l)
	}
	return states
}

// TestAllRequestsOfThreeTransactions tries all tables with two keys, all requests and all fixed transactions.
func TestAllRequestsOfThreeTransactions(t *testing.T) {
	for _, ofB := range statesOfKey("b") {
		for _, ofA := range statesOfKey("a") {
			l := slices.Concat(ofB, ofA)
			wantGoodLocks(t, l, true)
			for txn := 1; txn <= 3; txn++ {
				others, own, ok := modelFreeAndOf(l, txn)
				wantFreeAndOf(t, l, txn, others, own, ok)
				for _, x := range locks(toRead("a", txn), toWrite("a", txn), toRead("b", txn), toWrite("b", txn), toRead("c", txn), toWrite("c", txn)) {
					waits, ok := modelWaitsFor(l, x)
					wantWaits(t, l, x, waits, ok)
					taken, ok := modelTake(l, x)
					wantTake(t, l, x, taken, ok)
					for _, fixed := range [][]int{nil, {1}, {2}, {3}, {1, 2}, {3, 1}, {2, 3}, {3, 2, 1}} {
						end, wounded, ok := modelAskLock(l, fixed, x)
						wantAskLock(t, l, fixed, x, end, wounded, ok)
					}
				}
			}
		}
	}
}

func randomLock(r *rand.Rand, txns int, keys int) impl.Lock {
	return impl.Lock{Key: programKeys[r.IntN(keys)], Txn: 1 + r.IntN(txns), Write: r.IntN(2) == 0}
}

func randomLocks(r *rand.Rand) []impl.Lock {
	var l []impl.Lock
	for range r.IntN(40) {
		if taken, ok := modelTake(l, randomLock(r, lastTxn, len(programKeys))); ok {
			l = taken
		}
	}
	return l
}

func TestLocksAgreeWithTheModel(t *testing.T) {
	r := rand.New(rand.NewPCG(122, 122))
	for range 4000 {
		l := randomLocks(r)
		for range 5 {
			x := randomLock(r, lastTxn, len(programKeys))
			if len(l) > 0 && r.IntN(3) == 0 {
				x.Txn = l[r.IntN(len(l))].Txn
			}
			fixed := make([]int, r.IntN(5))
			for i := range fixed {
				fixed[i] = 1 + r.IntN(lastTxn)
			}
			waits, ok := modelWaitsFor(l, x)
			wantWaits(t, l, x, waits, ok)
			end, wounded, ok := modelAskLock(l, fixed, x)
			wantAskLock(t, l, fixed, x, end, wounded, ok)
			taken, ok := modelTake(l, x)
			wantTake(t, l, x, taken, ok)
			others, own, ok := modelFreeAndOf(l, x.Txn)
			wantFreeAndOf(t, l, x.Txn, others, own, ok)
		}
		invalid := append(slices.Clone(l), randomLock(r, lastTxn, len(programKeys)))
		wantGoodLocks(t, invalid, areLocks(invalid))
	}
}

func TestFindRing(t *testing.T) {
	for _, x := range []struct {
		waits [][]int
		ring  []int
	}{
		{[][]int{{0}}, []int{0}},
		{[][]int{{1}, {1}}, []int{1}},
		{[][]int{{1, 0}, {0}}, []int{0}},
		{[][]int{{1}, {0}}, []int{0, 1}},
		{[][]int{{1}, {2}, {0}}, []int{0, 1, 2}},
		{[][]int{{2}, {0}, {1}}, []int{0, 2, 1}},
		{[][]int{{1}, {2}, {1}}, []int{1, 2}},
		{[][]int{{1}, {0}, {3}, {2}}, []int{0, 1}},
		{[][]int{{}, {2}, {1}, {3}}, []int{1, 2}},
		{[][]int{{1}, {2}, {0}, {3}}, []int{0, 1, 2}},
		{[][]int{{2}, {3}, {2}, {1}}, []int{1, 3}},
		{[][]int{{3}, {2, 0}, {4}, {4}, {3}}, []int{3, 4}},
		{[][]int{{2, 1}, {0}, {0}}, []int{0, 1}},
		{[][]int{{2, 1}, {4}, {3}, {0}, {0}}, []int{0, 1, 4}},
		{[][]int{{1, 2}, {3}, {3}, {0}}, []int{0, 1, 3}},
		{[][]int{{1, 3}, {2}, {0}, {0}}, []int{0, 3}},
		{[][]int{{4, 1}, {3, 2}, {0}, {0}, {2}}, []int{0, 1, 2}},
		{[][]int{{1, 1, 1}, {1, 0, 0}}, []int{0, 1}},
		{[][]int{{5, 4, 3, 2, 1}, {}, {5}, {1}, {0}, {1, 2, 3, 0}}, []int{0, 4}},
		{[][]int{{1}, {2}, {3}, {1}}, []int{1, 2, 3}},
		{[][]int{{1}, {2, 4}, {3, 1}, {0}, {0}}, []int{0, 1, 4}},
	} {
		wantRing(t, x.waits, x.ring, true)
	}
	for _, waits := range [][][]int{nil, {}, {{}}, {nil, nil, nil}, {{1}, {}}, {{}, {0}}, {{1, 2, 3}, {2, 3}, {3}, {}}, {{}, {0}, {1, 0}, {0, 2, 1}}, {{3}, {0}, {1}, {}}} {
		wantRing(t, waits, nil, false)
	}
}

// rimOf returns n lists, of which each names the next one and the last one names the first.
func rimOf(n int) [][]int {
	waits := make([][]int, n)
	for v := range waits {
		waits[v] = []int{(v + 1) % n}
	}
	return waits
}

func TestFindRingChecksTheNumberOfLists(t *testing.T) {
	for n := 1; n <= mostWaiters+5; n++ {
		ring, ok := modelRing(rimOf(n))
		if ok != (n <= mostWaiters) || ok && len(ring) != n {
			t.Fatalf("the model finds %v, %v", ring, ok)
		}
		wantRing(t, rimOf(n), ring, ok)
		empty := make([][]int, n)
		wantRing(t, empty, nil, false)
		empty[n-1] = []int{n - 1}
		if n <= mostWaiters {
			wantRing(t, empty, []int{n - 1}, true)
		} else {
			wantRing(t, empty, nil, false)
		}
	}
	wantRing(t, rimOf(1000), nil, false)
	wantRing(t, slices.Repeat([][]int{{0}}, mostWaiters+1), nil, false)
}

func TestFindRingChecksTheVertices(t *testing.T) {
	for _, n := range []int{1, 2, 5, mostWaiters} {
		for at := range n {
			for _, v := range []int{-1, -2, n, n + 1, mostWaiters + 1, 256, 1 << 32, math.MinInt, math.MaxInt} {
				waits := rimOf(n)
				waits[at] = append(waits[at], v)
				wantRing(t, waits, nil, false)
				waits[at] = []int{v, (at + 1) % n, 0}
				wantRing(t, waits, nil, false)
				waits[0] = append(waits[0], 0)
				wantRing(t, waits, nil, false)
			}
		}
	}
}

// graphOf has a bit of many for each pair of n vertices. The lists name the later vertices first.
func graphOf(n int, many int) [][]int {
	waits := make([][]int, n)
	for v := range n {
		for next := n - 1; next >= 0; next-- {
			if many&(1<<(v*n+next)) > 0 {
				waits[v] = append(waits[v], next)
			}
		}
	}
	return waits
}

// pathsBack returns all paths without a repetition that go on from this one and could return to its start in one step.
func pathsBack(waits [][]int, path []int) [][]int {
	var found [][]int
	last := path[len(path)-1]
	if slices.Contains(waits[last], path[0]) {
		found = append(found, slices.Clone(path))
	}
	for _, v := range waits[last] {
		if !slices.Contains(path, v) {
			found = append(found, pathsBack(waits, append(slices.Clone(path), v))...)
		}
	}
	return found
}

// TestFindRingInAllSmallGraphs compares the result with the best of all rings.
func TestFindRingInAllSmallGraphs(t *testing.T) {
	best := func(a []int, b []int) int {
		if len(a) != len(b) {
			return len(a) - len(b)
		}
		return slices.Compare(a, b)
	}
	for n := range 5 {
		for many := range 1 << (n * n) {
			waits := graphOf(n, many)
			var rings [][]int
			for start := 0; start < n && len(rings) == 0; start++ {
				rings = pathsBack(waits, []int{start})
			}
			if len(rings) == 0 {
				wantRing(t, waits, nil, false)
				continue
			}
			wantRing(t, waits, slices.MinFunc(rings, best), true)
		}
	}
}

func randomWaits(r *rand.Rand) [][]int {
	waits := make([][]int, r.IntN(mostWaiters+1))
	most := 1 + r.IntN(4)
	for v := range waits {
		for range r.IntN(most + 1) {
			waits[v] = append(waits[v], r.IntN(len(waits)))
		}
	}
	return waits
}

func TestFindRingAgreesWithTheModel(t *testing.T) {
	r := rand.New(rand.NewPCG(123, 123))
	lengths := map[int]int{}
	for range 20000 {
		waits := randomWaits(r)
		ring, ok := modelRing(waits)
		wantRing(t, waits, ring, ok)
		lengths[len(ring)]++
	}
	if len(lengths) < 8 || lengths[0] < 500 {
		t.Errorf("the rings have only these lengths: %v", lengths)
	}
}

func TestFindRingInFullGraphs(t *testing.T) {
	for n := 2; n <= mostWaiters; n++ {
		waits := make([][]int, n)
		for v := range waits {
			for next := n - 1; next >= 0; next-- {
				if next != v {
					waits[v] = append(waits[v], next)
				}
			}
		}
		wantRing(t, waits, []int{0, 1}, true)
		for v := range waits {
			waits[v] = slices.DeleteFunc(waits[v], func(next int) bool { return next > v })
		}
		wantRing(t, waits, nil, false)
	}
}

// TestNoRingIfAllWaitForOlderOnes has vertex v for transaction v+1.
func TestNoRingIfAllWaitForOlderOnes(t *testing.T) {
	r := rand.New(rand.NewPCG(124, 124))
	for range 3000 {
		waits := randomWaits(r)
		for v := range waits {
			waits[v] = slices.DeleteFunc(waits[v], func(next int) bool { return next >= v })
		}
		wantRing(t, waits, nil, false)
	}
}

// A lockBook has a table of locks, who cannot be aborted, and for what the waiting transactions have asked.
type lockBook struct {
	table   []impl.Lock
	fixed   []int
	pending map[int]impl.Lock
	answers [4]int
}

func (b *lockBook) free(t *testing.T, txn int) {
	t.Helper()
	l, ok := impl.FreeLocks(b.table, txn)
	if !ok {
		t.Fatalf("FreeLocks(%v, %d) fails", b.table, txn)
	}
	delete(b.pending, txn)
	b.table = l
}

// ask does what AskLock says and checks that this is right.
func (b *lockBook) ask(t *testing.T, x impl.Lock) {
	t.Helper()
	end, wounded, ok := impl.AskLock(b.table, b.fixed, x)
	if !ok {
		t.Fatalf("AskLock(%v, %v, %v) fails", b.table, b.fixed, x)
	}
	b.answers[end]++
	taken, free := impl.TakeLock(b.table, x)
	switch {
	case free != (end == lockGiven):
		t.Fatalf("AskLock(%v, %v, %v) = %d, but TakeLock returns %v, %v", b.table, b.fixed, x, end, taken, free)
	case end == lockGiven:
		delete(b.pending, x.Txn)
		b.table = taken
	case end == lockWaits:
		b.pending[x.Txn] = x
		b.wantReasonToWait(t, x)
	default:
		for _, txn := range wounded {
			if txn <= x.Txn || slices.Contains(b.fixed, txn) {
				t.Fatalf("%v aborts %d in %v, %v", x, txn, b.table, b.fixed)
			}
			b.free(t, txn)
		}
		b.ask(t, x)
		if b.pending[x.Txn].Txn > 0 {
			t.Fatalf("%v waits after it has aborted %v", x, wounded)
		}
	}
}

// wantReasonToWait looks for a transaction that x has to wait for. For the oldest of all, only one that cannot be aborted is a reason.
func (b *lockBook) wantReasonToWait(t *testing.T, x impl.Lock) {
	t.Helper()
	for _, y := range b.table {
		inTheWay := y.Key == x.Key && y.Txn != x.Txn && (x.Write || y.Write)
		if inTheWay && (y.Txn < x.Txn || slices.Contains(b.fixed, y.Txn)) {
			return
		}
	}
	t.Fatalf("%v waits in %v, %v", x, b.table, b.fixed)
}

// wantNoRingOfOlder has for every transaction for whom it waits, if all of these are older.
func (b *lockBook) wantNoRingOfOlder(t *testing.T, txns int) {
	t.Helper()
	waits := make([][]int, txns)
	for txn, x := range b.pending {
		l, ok := impl.WaitsFor(b.table, x)
		if !ok {
			t.Fatalf("WaitsFor(%v, %v) fails", b.table, x)
		}
		if !slices.ContainsFunc(l, func(other int) bool { return other > txn }) {
			for _, other := range l {
				waits[txn-1] = append(waits[txn-1], other-1)
			}
		}
	}
	wantRing(t, waits, nil, false)
}

func (b *lockBook) randomStep(t *testing.T, r *rand.Rand, txns int, keys int, mayFix bool) {
	t.Helper()
	txn := 1 + r.IntN(txns)
	switch choice := r.IntN(12); {
	case choice == 0:
		b.free(t, txn)
		b.fixed = slices.DeleteFunc(b.fixed, func(other int) bool { return other == txn })
	case choice == 1 && mayFix && len(b.fixed) < mostFixed:
		b.fixed = append(b.fixed, txn)
	case b.pending[txn].Txn > 0:
		b.ask(t, b.pending[txn])
	default:
		x := randomLock(r, txns, keys)
		x.Txn = txn
		b.ask(t, x)
	}
}

// TestConflictingLocksAreNeverGranted asks for locks in any order on empty tables.
func TestConflictingLocksAreNeverGranted(t *testing.T) {
	r := rand.New(rand.NewPCG(125, 125))
	var answers [4]int
	for run := range 600 {
		txns, keys := 2+r.IntN(11), 1+r.IntN(len(programKeys))
		b := lockBook{pending: map[int]impl.Lock{}, answers: answers}
		for range 150 {
			b.randomStep(t, r, txns, keys, run%2 == 1)
			if !areLocks(b.table) {
				t.Fatalf("the table is %v", b.table)
			}
			b.wantNoRingOfOlder(t, txns)
		}
		wantGoodLocks(t, b.table, true)
		answers = b.answers
	}
	for end := lockGiven; end <= lockWounds; end++ {
		if answers[end] < 3000 {
			t.Errorf("answer %d was given only %d times", end, answers[end])
		}
	}
}

// TestTheOldestNeverWaits lets the oldest transaction ask for any lock in any table; only fixed transactions let it wait.
func TestTheOldestNeverWaits(t *testing.T) {
	r := rand.New(rand.NewPCG(126, 126))
	for range 3000 {
		l, _, _ := modelFreeAndOf(randomLocks(r), 1)
		x := randomLock(r, 1, len(programKeys))
		waits, _ := modelWaitsFor(l, x)
		if len(waits) == 0 {
			wantAskLock(t, l, nil, x, lockGiven, nil, true)
			continue
		}
		wantAskLock(t, l, nil, x, lockWounds, waits, true)
		fixed := []int{1}
		for txn := 2; txn <= lastTxn && len(fixed) < mostFixed; txn++ {
			if !slices.Contains(waits, txn) {
				fixed = append(fixed, txn)
			}
		}
		wantAskLock(t, l, fixed, x, lockWounds, waits, true)
		fixed[r.IntN(len(fixed))] = waits[r.IntN(len(waits))]
		wantAskLock(t, l, fixed, x, lockWaits, nil, true)
		// Once these are aborted, there is nothing to wait for.
		for _, txn := range waits {
			l, _ = impl.FreeLocks(l, txn)
		}
		wantAskLock(t, l, fixed, x, lockGiven, nil, true)
	}
}

// TestWritersNeverWaitInARing has locks for writing only: whoever waits then waits for one older transaction.
func TestWritersNeverWaitInARing(t *testing.T) {
	r := rand.New(rand.NewPCG(127, 127))
	waiting := 0
	for range 300 {
		b := lockBook{pending: map[int]impl.Lock{}}
		for range 100 {
			txn := 1 + r.IntN(mostWaiters)
			x, waits := b.pending[txn], b.pending[txn].Txn > 0
			if !waits {
				x = toWrite(programKeys[r.IntN(len(programKeys))], txn)
			}
			b.ask(t, x)
			graph := make([][]int, mostWaiters)
			for txn, x := range b.pending {
				end, _, _ := impl.AskLock(b.table, nil, x)
				if end == lockWaits {
					l, _ := impl.WaitsFor(b.table, x)
					graph[txn-1] = append(graph[txn-1], l[0]-1)
					waiting++
				}
			}
			wantRing(t, graph, nil, false)
		}
	}
	if waiting < 10000 {
		t.Errorf("only %d waits were tried", waiting)
	}
}
