package tests

import (
	"cmp"
	"fmt"
	"math"
	"math/rand/v2"
	"slices"
	"strings"
	"testing"

	"loop.example/g00850/impl"
)

// The limit is written out, so that a changed constant of the program is noticed.
const mostHeld = 12

func heldBy(txn int, time int, reads []string, w ...impl.Write) impl.Held {
	return impl.Held{Txn: txn, Time: time, Reads: reads, Writes: w}
}

func heldOnes(l ...impl.Held) []impl.Held { return l }

func toldYes(txn int, time int) impl.Told { return impl.Told{Txn: txn, Yes: true, Time: time} }

func toldNo(txn int) impl.Told { return impl.Told{Txn: txn} }

func stateAt(floor int, c []impl.Cell, held []impl.Held, told ...impl.Told) impl.State {
	return impl.State{Floor: floor, Cells: c, Held: held, Told: told}
}

// heldWith has n transactions, from 1 on, that read the same key.
func heldWith(n int) []impl.Held {
	var l []impl.Held
	for i := range n {
		l = append(l, heldBy(i+1, 5, []string{"r"}))
	}
	return l
}

// toldWith has n outcomes of both kinds, from transaction 1 on.
func toldWith(n int) []impl.Told {
	var l []impl.Told
	for i := range n {
		if i%2 == 0 {
			l = append(l, toldYes(i+1, 1+i%5))
		} else {
			l = append(l, toldNo(i+1))
		}
	}
	return l
}

func cloneHeld(l []impl.Held) []impl.Held {
	l = slices.Clone(l)
	for i := range l {
		l[i].Reads = slices.Clone(l[i].Reads)
		l[i].Writes = slices.Clone(l[i].Writes)
	}
	return l
}

func cloneState(s impl.State) impl.State {
	return impl.State{Floor: s.Floor, Cells: cloneCells(s.Cells), Held: cloneHeld(s.Held), Told: slices.Clone(s.Told)}
}

func equalHeld(a impl.Held, b impl.Held) bool {
	return a.Txn == b.Txn && a.Time == b.Time && a.Lead == b.Lead && slices.Equal(a.Reads, b.Reads) && slices.Equal(a.Writes, b.Writes)
}

func equalState(a impl.State, b impl.State) bool {
	return a.Floor == b.Floor && equalCells(a.Cells, b.Cells) && slices.EqualFunc(a.Held, b.Held, equalHeld) && slices.Equal(a.Told, b.Told)
}

func keysWrittenBy(w []impl.Write) []string {
	var keys []string
	for _, x := range w {
		keys = append(keys, x.Key)
	}
	return keys
}

// versionsOf returns nothing for a key without a cell.
func versionsOf(l []impl.Cell, key string) []impl.Ver {
	for _, c := range l {
		if c.Key == key {
			return c.Vers
		}
	}
	return nil
}

// areApart reports whether no key that one of them writes is used by the other.
func areApart(a impl.Held, b impl.Held) bool {
	in := func(l []string) func(string) bool { return func(key string) bool { return slices.Contains(l, key) } }
	writesOfA, writesOfB := keysWrittenBy(a.Writes), keysWrittenBy(b.Writes)
	return !slices.ContainsFunc(writesOfA, in(slices.Concat(writesOfB, b.Reads))) && !slices.ContainsFunc(a.Reads, in(writesOfB))
}

// haveRoom reports whether the keys and the versions are within their limits, also when all are committed.
func haveRoom(l []impl.Cell, held []impl.Held) bool {
	keys := map[string]bool{}
	for _, c := range l {
		keys[c.Key] = true
	}
	for _, h := range held {
		for _, key := range keysWrittenBy(h.Writes) {
			if len(versionsOf(l, key))+1 > mostVers {
				return false
			}
			keys[key] = true
		}
	}
	return len(keys) <= mostCells && len(held) <= mostHeld
}

func areHeld(s impl.State) bool {
	if len(s.Held) > mostHeld {
		return false
	}
	for i, h := range s.Held {
		if !isRec(prepare(h.Txn, h.Time, h.Lead, h.Reads, h.Writes...)) || h.Time > s.Floor || i > 0 && h.Txn <= s.Held[i-1].Txn {
			return false
		}
		for j, other := range s.Held {
			if i != j && !areApart(h, other) {
				return false
			}
		}
		for _, key := range keysWrittenBy(h.Writes) {
			if slices.ContainsFunc(versionsOf(s.Cells, key), func(v impl.Ver) bool { return v.Time >= h.Time }) {
				return false
			}
		}
	}
	return haveRoom(s.Cells, s.Held)
}

func areTold(s impl.State) bool {
	if len(s.Told) > lastTxn {
		return false
	}
	for i, o := range s.Told {
		timed := o.Yes && isWithin(o.Time, 1, s.Floor) || !o.Yes && o.Time == 0
		if !timed || !isWithin(o.Txn, 1, lastTxn) || i > 0 && o.Txn <= s.Told[i-1].Txn {
			return false
		}
		if slices.ContainsFunc(s.Held, func(h impl.Held) bool { return h.Txn == o.Txn }) {
			return false
		}
	}
	return true
}

func isState(s impl.State) bool {
	if !isWithin(s.Floor, 0, lastTrue) || !areCells(s.Cells) {
		return false
	}
	for _, c := range s.Cells {
		for _, v := range c.Vers {
			if v.Time > s.Floor {
				return false
			}
		}
	}
	return areHeld(s) && areTold(s)
}

func modelFits(s impl.State, reads []string, w []impl.Write) (bool, bool) {
	if !isState(s) || !isRec(prepare(1, 1, 0, reads, w...)) {
		return false, false
	}
	x := impl.Held{Reads: reads, Writes: w}
	for _, h := range s.Held {
		if !areApart(h, x) {
			return false, true
		}
	}
	return haveRoom(s.Cells, append(slices.Clone(s.Held), x)), true
}

func modelHeld(s impl.State, txn int) (impl.Held, bool) {
	for _, h := range s.Held {
		if h.Txn == txn && isState(s) {
			return h, true
		}
	}
	return impl.Held{}, false
}

func modelOutcome(s impl.State, txn int) (impl.Told, bool) {
	for _, o := range s.Told {
		if o.Txn == txn && isState(s) {
			return o, true
		}
	}
	return impl.Told{}, false
}

func modelSettled(s impl.State) (int, bool) {
	if !isState(s) {
		return 0, false
	}
	times := []int{s.Floor}
	for _, h := range s.Held {
		times = append(times, h.Time-1)
	}
	return slices.Min(times), true
}

func modelBlocks(s impl.State, key string, time int) ([]int, bool) {
	if !isState(s) || !keyForm.MatchString(key) || !isWithin(time, 0, lastTrue) {
		return nil, false
	}
	var txns []int
	for txn := 1; txn <= lastTxn; txn++ {
		h, prepared := modelHeld(s, txn)
		if prepared && h.Time <= time && slices.Contains(keysWrittenBy(h.Writes), key) {
			txns = append(txns, txn)
		}
	}
	return txns, true
}

// modelPrepare judges by the state that would result.
func modelPrepare(s impl.State, r impl.Rec) (impl.State, bool) {
	next := cloneState(s)
	next.Floor = r.Time
	next.Held = append(next.Held, impl.Held{Txn: r.Txn, Time: r.Time, Lead: r.Lead, Reads: r.Reads, Writes: r.Writes})
	slices.SortFunc(next.Held, func(a impl.Held, b impl.Held) int { return cmp.Compare(a.Txn, b.Txn) })
	if r.Time <= s.Floor || !isState(next) {
		return impl.State{}, false
	}
	return next, true
}

func modelDecide(s impl.State, r impl.Rec) (impl.State, bool) {
	h, prepared := modelHeld(s, r.Txn)
	_, decided := modelOutcome(s, r.Txn)
	if decided || r.Yes && (!prepared || h.Time > r.Time) {
		return impl.State{}, false
	}
	next := cloneState(s)
	next.Held = slices.DeleteFunc(next.Held, func(h impl.Held) bool { return h.Txn == r.Txn })
	next.Told = append(next.Told, impl.Told{Txn: r.Txn, Yes: r.Yes, Time: r.Time})
	slices.SortFunc(next.Told, func(a impl.Told, b impl.Told) int { return cmp.Compare(a.Txn, b.Txn) })
	if r.Yes {
		next.Cells, _ = putInto(s.Cells, h.Writes, r.Time)
		next.Floor = max(next.Floor, r.Time)
	}
	return next, true
}

func modelApply(s impl.State, r impl.Rec) (impl.State, bool) {
	if !isState(s) || !isRec(r) {
		return impl.State{}, false
	}
	switch r.Kind {
	case kindPrepare:
		return modelPrepare(s, r)
	case kindDecide, kindDone:
		return modelDecide(s, r)
	}
	next := cloneState(s)
	next.Floor = r.Time
	if r.Time <= s.Floor {
		return impl.State{}, false
	}
	return next, true
}

func modelStateOf(l []impl.Rec) (impl.State, []bool, bool) {
	if len(l) > mostEntries || slices.ContainsFunc(l, func(r impl.Rec) bool { return !isRec(r) }) {
		return impl.State{}, nil, false
	}
	s, did := impl.State{}, make([]bool, len(l))
	for i, r := range l {
		next, ok := modelApply(s, r)
		if ok {
			s, did[i] = next, true
		}
	}
	return s, did, true
}

func wantGoodState(t *testing.T, s impl.State, good bool) {
	t.Helper()
	if impl.GoodState(s) != good {
		t.Errorf("GoodState(%s) is %v", short(s), !good)
	}
}

func wantFits(t *testing.T, s impl.State, reads []string, w []impl.Write, fits bool, ok bool) {
	t.Helper()
	if got, gotOK := impl.FitsState(s, reads, w); got != fits || gotOK != ok {
		t.Errorf("FitsState(%s, %s, %s) = %v, %v; want %v, %v", short(s), short(reads), short(w), got, gotOK, fits, ok)
	}
}

func wantApply(t *testing.T, s impl.State, r impl.Rec, want impl.State, ok bool) {
	t.Helper()
	if got, gotOK := impl.ApplyRec(s, r); !equalState(got, want) || gotOK != ok {
		t.Errorf("ApplyRec(%s, %s) = %s, %v; want %s, %v", short(s), short(r), short(got), gotOK, short(want), ok)
	}
}

// wantNotApplied has a record that is invalid or not applicable.
func wantNotApplied(t *testing.T, s impl.State, r impl.Rec) {
	t.Helper()
	wantApply(t, s, r, impl.State{}, false)
}

func wantStateOf(t *testing.T, l []impl.Rec, want impl.State, did []bool, ok bool) {
	t.Helper()
	got, gotDid, gotOK := impl.StateOf(l)
	if !equalState(got, want) || !slices.Equal(gotDid, did) || gotOK != ok {
		t.Errorf("StateOf(%s) = %s, %v, %v; want %s, %v, %v", short(l), short(got), gotDid, gotOK, short(want), did, ok)
	}
}

func wantOutcome(t *testing.T, s impl.State, txn int, want impl.Told, ok bool) {
	t.Helper()
	if got, gotOK := impl.OutcomeOf(s, txn); got != want || gotOK != ok {
		t.Errorf("OutcomeOf(%s, %d) = %v, %v; want %v, %v", short(s), txn, got, gotOK, want, ok)
	}
}

func wantHeld(t *testing.T, s impl.State, txn int, want impl.Held, ok bool) {
	t.Helper()
	if got, gotOK := impl.HeldOf(s, txn); !equalHeld(got, want) || gotOK != ok {
		t.Errorf("HeldOf(%s, %d) = %v, %v; want %v, %v", short(s), txn, got, gotOK, want, ok)
	}
}

func wantSettled(t *testing.T, s impl.State, want int, ok bool) {
	t.Helper()
	if got, gotOK := impl.SettledTo(s); got != want || gotOK != ok {
		t.Errorf("SettledTo(%s) = %d, %v; want %d, %v", short(s), got, gotOK, want, ok)
	}
}

func wantBlocks(t *testing.T, s impl.State, key string, time int, want []int, ok bool) {
	t.Helper()
	if got, gotOK := impl.BlocksKey(s, key, time); !slices.Equal(got, want) || gotOK != ok {
		t.Errorf("BlocksKey(%s, %.80q, %d) = %v, %v; want %v, %v", short(s), key, time, got, gotOK, want, ok)
	}
}

func wantSameState(t *testing.T, a impl.State, b impl.State, same bool) {
	t.Helper()
	if impl.SameState(a, b) != same || impl.SameState(b, a) != same {
		t.Errorf("SameState(%s, %s) is not %v in both directions", short(a), short(b), same)
	}
}

// wantNoState asks all functions for something that they would do with a valid state.
func wantNoState(t *testing.T, s impl.State) {
	t.Helper()
	wantGoodState(t, s, false)
	wantFits(t, s, []string{"free"}, nil, false, false)
	wantFits(t, s, nil, writes(store("free", "1")), false, false)
	wantNotApplied(t, s, prepare(lastTxn, lastTrue, 0, []string{"free"}))
	wantNotApplied(t, s, floorAt(lastTrue))
	wantSettled(t, s, 0, false)
	wantSameState(t, s, cloneState(s), true)
	for txn := range lastTxn + 2 {
		wantOutcome(t, s, txn, impl.Told{}, false)
		wantHeld(t, s, txn, impl.Held{}, false)
		wantNotApplied(t, s, no(kindDecide, txn))
		wantNotApplied(t, s, yes(kindDone, txn, lastTrue))
	}
	for _, key := range []string{"a", "k0000", "free"} {
		wantBlocks(t, s, key, lastTrue, nil, false)
		wantBlocks(t, s, key, 0, nil, false)
	}
}

// wantModelState asks all functions about a state and compares their answers with those of the model.
func wantModelState(t *testing.T, s impl.State) {
	t.Helper()
	wantGoodState(t, s, isState(s))
	settled, ok := modelSettled(s)
	wantSettled(t, s, settled, ok)
	for txn := range lastTxn + 2 {
		o, ok := modelOutcome(s, txn)
		wantOutcome(t, s, txn, o, ok)
		h, ok := modelHeld(s, txn)
		wantHeld(t, s, txn, h, ok)
	}
	for _, h := range s.Held {
		for _, key := range slices.Concat(h.Reads, keysWrittenBy(h.Writes)) {
			for _, time := range []int{h.Time - 1, h.Time, h.Time + 1, lastTrue} {
				txns, ok := modelBlocks(s, key, time)
				wantBlocks(t, s, key, time, txns, ok)
			}
			for _, parts := range []impl.Rec{prepare(1, 1, 0, []string{key}), prepare(1, 1, 0, nil, drop(key))} {
				fits, ok := modelFits(s, parts.Reads, parts.Writes)
				wantFits(t, s, parts.Reads, parts.Writes, fits, ok)
			}
		}
	}
}

// goodStates meets the limits exactly.
func goodStates() []impl.State {
	reads, w := longestParts()
	long := cells(cell("a", manyVers(mostVers-1)...), cell("b", manyVers(mostVers)...))
	w16, w24 := manyWrites(16), manyWrites(mostCells)
	return []impl.State{
		{}, stateAt(1, nil, nil), stateAt(lastTrue, nil, nil), stateAt(9, cells(cell("a", ver(9, "1"))), nil), stateAt(9, cells(cell("a", ver(8, "1"), gone(9)), cell("b", gone(1))), nil),
		stateAt(lastTrue, cells(cell("a", ver(lastTrue, "1"))), nil), stateAt(5, manyCells(mostCells), nil), stateAt(mostVers, long, nil),
		stateAt(5, nil, heldWith(1)), stateAt(6, nil, heldWith(mostHeld-1)), stateAt(5, nil, heldWith(mostHeld)), stateAt(5, nil, nil, toldWith(lastTxn-1)...), stateAt(5, nil, nil, toldWith(lastTxn)...),
		stateAt(5, nil, heldWith(mostHeld), toldWith(lastTxn)[mostHeld:]...), stateAt(9, nil, heldOnes(heldBy(lastTxn, 9, nil, drop("a"))), toldYes(1, 9)),
		stateAt(9, nil, nil, toldYes(1, 1), toldYes(2, 9), toldNo(3), toldNo(lastTxn)), stateAt(0, nil, nil, toldNo(1), toldNo(lastTxn)),
		stateAt(lastTrue, nil, heldOnes(impl.Held{Txn: lastTxn, Time: lastTrue, Lead: lastLead, Reads: reads, Writes: w})),
		stateAt(9, nil, heldOnes(heldBy(1, 9, []string{"a", "b"}, store("a", "1")), heldBy(3, 2, []string{"b"}), heldBy(4, 9, []string{"b", "d"}, drop("c"))), toldNo(2)),
		stateAt(9, cells(cell("a", ver(4, "1"))), heldOnes(heldBy(1, 5, nil, store("a", "2")))), stateAt(9, cells(cell("a", ver(9, "1"))), heldOnes(heldBy(1, 5, []string{"a"}, store("b", "2")))),
		stateAt(mostVers, long, heldOnes(heldBy(1, mostVers, []string{"b"}, drop("a")))), stateAt(mostVers+1, long, heldOnes(heldBy(1, mostVers+1, []string{"b"}, drop("a"), drop("c")))),
		stateAt(5, manyCells(mostCells), heldOnes(heldBy(1, 5, nil, w24[:8]...), heldBy(2, 5, nil, w24[8:16]...), heldBy(3, 5, nil, w24[16:]...))),
		stateAt(5, nil, heldOnes(heldBy(1, 5, nil, w24[:8]...), heldBy(2, 5, nil, w24[8:16]...), heldBy(3, 5, nil, w24[16:]...))),
		stateAt(5, manyCells(17), heldOnes(heldBy(1, 5, nil, w24[16:]...))), stateAt(5, manyCells(16), heldOnes(heldBy(1, 5, []string{"new"}, w24[16:]...), heldBy(2, 5, nil, w16[8:]...))),
	}
}

// badHeldOnes are invalid wherever they are.
func badHeldOnes() []impl.Held {
	var l []impl.Held
	for _, r := range badRecs() {
		if r.Kind == kindPrepare && !r.Yes {
			l = append(l, impl.Held{Txn: r.Txn, Time: r.Time, Lead: r.Lead, Reads: r.Reads, Writes: r.Writes})
		}
	}
	return append(l, impl.Held{})
}

// badTold has single outcomes that are invalid at floor 9.
func badTold() []impl.Told {
	l := []impl.Told{{}, toldYes(1, 0), toldYes(1, -1), toldYes(1, 10), toldYes(1, lastTrue), toldYes(1, lastTrue+1), toldYes(1, math.MinInt), toldYes(1, math.MaxInt)}
	for _, time := range []int{-1, 1, 9, 10, lastTrue, math.MinInt, math.MaxInt} {
		l = append(l, impl.Told{Txn: 1, Time: time})
	}
	for _, txn := range []int{0, -1, lastTxn + 1, lastTxn + 2, 1<<32 + 1, math.MinInt, math.MaxInt} {
		l = append(l, toldYes(txn, 5), toldNo(txn))
	}
	return l
}

// badStates exceeds each limit by one, and more.
func badStates() []impl.State {
	return slices.Concat(statesOfBadTimes(), statesOfBadLists(), statesOfConflicts(), statesWithoutRoom())
}

func statesOfBadTimes() []impl.State {
	l := []impl.State{stateAt(0, manyCells(1), nil), stateAt(4, nil, heldWith(1)), stateAt(0, nil, heldOnes(heldBy(1, 1, []string{"a"})))}
	for _, floor := range []int{-1, lastTrue + 1, math.MinInt, math.MaxInt, 1 << 32} {
		l = append(l, stateAt(floor, nil, nil))
	}
	for _, c := range [][]impl.Cell{
		cells(cell("a", ver(10, "1"))), cells(cell("a", ver(1, "1")), cell("b", ver(9, "1"), gone(10))), cells(cell("a", ver(10, "1")), cell("b", ver(9, "1"))),
	} {
		l = append(l, stateAt(9, c, nil))
	}
	l = append(l, stateAt(9, nil, heldOnes(heldBy(1, 9, []string{"a"}), heldBy(2, 10, []string{"a"}))))
	for _, o := range badTold() {
		l = append(l, stateAt(9, nil, nil, o), stateAt(9, nil, nil, o, toldNo(30)), stateAt(9, nil, nil, toldNo(30), o))
	}
	for _, time := range []int{1, 4, 5} {
		one := heldBy(1, time, nil, store("a", "1"))
		both := heldBy(1, time, nil, drop("a"), store("b", "1"))
		pair := heldOnes(heldBy(1, 6, nil, store("a", "1")), heldBy(2, time, nil, store("b", "1")))
		l = append(l, stateAt(9, cells(cell("a", ver(5, "1"))), heldOnes(one)))
		l = append(l, stateAt(9, cells(cell("a", ver(1, "1"), gone(5)), cell("b", ver(1, "1"))), heldOnes(both)))
		l = append(l, stateAt(9, cells(cell("a", ver(1, "1")), cell("b", ver(5, "1"))), pair))
	}
	return l
}

// statesOfBadLists has invalid elements, too many of them, and some that are out of order or twice there.
func statesOfBadLists() []impl.State {
	l := []impl.State{
		stateAt(5, nil, heldWith(mostHeld+1)), stateAt(5, nil, heldWith(lastTxn)), stateAt(9, nil, nil, toldWith(lastTxn+1)...), stateAt(9, nil, nil, make([]impl.Told, lastTxn+1)...),
		stateAt(9, nil, heldWith(1), toldNo(1)), stateAt(9, nil, heldWith(1), toldYes(1, 9)), stateAt(9, nil, heldWith(3), toldNo(3), toldNo(5)), stateAt(9, nil, heldWith(mostHeld), toldWith(lastTxn)[mostHeld-1:]...),
	}
	for _, c := range [][]impl.Cell{
		manyCells(mostCells + 1), {cell("a")}, {cell("", ver(1, "1"))}, {cell("b", ver(1, "1")), cell("a", ver(1, "1"))},
		{cell("a", manyVers(mostVers+1)...)}, {cell("a", ver(2, "1"), ver(2, "1"))}, {cell("a", ver(0, "1"))},
	} {
		l = append(l, stateAt(lastTrue, c, nil), stateAt(lastTrue, c, heldWith(1)))
	}
	for _, h := range badHeldOnes() {
		l = append(l, stateAt(lastTrue, nil, heldOnes(h)), stateAt(lastTrue, nil, heldOnes(h, heldBy(lastTxn, 5, []string{"0"}))))
	}
	for _, txns := range [][]int{{2, 1}, {1, 1}, {1, 3, 2}, {1, 2, 2}, {2, 2, 3}, {1, 2, 1}} {
		var held []impl.Held
		var told []impl.Told
		for _, txn := range txns {
			held, told = append(held, heldBy(txn, 5, []string{"a"})), append(told, toldNo(txn))
		}
		l = append(l, stateAt(9, nil, held), stateAt(9, nil, nil, told...), stateAt(9, nil, heldOnes(heldBy(lastTxn, 5, []string{"a"})), told...))
	}
	return l
}

// statesOfConflicts has two transactions of which one writes what the other reads or writes, next to each other and apart.
func statesOfConflicts() []impl.State {
	a, b, d := store("a", "1"), store("b", "1"), store("d", "1")
	var l []impl.State
	for _, pair := range [][2]impl.Held{
		{heldBy(1, 5, nil, a), heldBy(2, 6, nil, a)}, {heldBy(1, 5, nil, a), heldBy(2, 6, []string{"a"})}, {heldBy(1, 5, []string{"a"}), heldBy(2, 6, nil, a)},
		{heldBy(1, 5, nil, a, b), heldBy(2, 6, nil, b)}, {heldBy(1, 5, nil, drop("a")), heldBy(2, 6, nil, drop("a"))},
		{heldBy(1, 5, []string{"b"}, a), heldBy(2, 6, []string{"0", "a", "c"}, d)}, {heldBy(1, 5, []string{"b"}, a), heldBy(2, 6, []string{"c"}, b, d)},
	} {
		between, last := heldBy(2, 6, []string{"z"}), pair[1]
		last.Txn = 3
		l = append(l, stateAt(9, nil, pair[:]), stateAt(9, nil, heldOnes(pair[0], between, last)))
	}
	return l
}

func statesWithoutRoom() []impl.State {
	a, b, w24 := store("a", "1"), store("b", "1"), manyWrites(mostCells)
	full := cells(cell("a", manyVers(mostVers)...), cell("b", ver(1, "1")))
	return []impl.State{
		stateAt(5, manyCells(mostCells), heldOnes(heldBy(1, 5, nil, a))),
		stateAt(5, manyCells(17), heldOnes(heldBy(1, 5, nil, append(writes(a), w24[17:]...)...))),
		stateAt(5, manyCells(15), heldOnes(heldBy(1, 5, nil, w24[15:23]...), heldBy(2, 5, nil, a, b))),
		stateAt(5, nil, heldOnes(heldBy(1, 5, nil, w24[:8]...), heldBy(2, 5, nil, w24[8:16]...), heldBy(3, 5, nil, w24[16:]...), heldBy(4, 5, nil, a))),
		stateAt(mostVers+1, full, heldOnes(heldBy(1, mostVers+1, nil, a))),
		stateAt(lastTrue, full, heldOnes(heldBy(1, 20, nil, b), heldBy(2, 21, nil, drop("a")))),
		stateAt(lastTrue, full, heldOnes(heldBy(1, 20, []string{"a"}, drop("a"), b))),
	}
}

func TestGoodState(t *testing.T) {
	for _, s := range goodStates() {
		wantGoodState(t, s, true)
		wantModelState(t, s)
	}
	for _, s := range badStates() {
		if isState(s) {
			t.Fatalf("%s is valid", short(s))
		}
		wantNoState(t, s)
	}
}

func TestGoodStateChecksTheFloor(t *testing.T) {
	for _, floor := range oddTimes {
		wantGoodState(t, stateAt(floor, nil, nil), isWithin(floor, 0, lastTrue))
		wantGoodState(t, stateAt(floor, cells(cell("a", ver(50000, "1"))), nil), isWithin(floor, 50000, lastTrue))
		wantGoodState(t, stateAt(floor, nil, heldOnes(heldBy(1, 50000, []string{"a"}))), isWithin(floor, 50000, lastTrue))
		wantGoodState(t, stateAt(floor, nil, nil, toldYes(1, 50000)), isWithin(floor, 50000, lastTrue))
		wantGoodState(t, stateAt(floor, nil, nil, toldNo(1)), isWithin(floor, 0, lastTrue))
	}
}

func TestGoodStateLooksAtEveryElement(t *testing.T) {
	for at := range mostHeld {
		for _, h := range badHeldOnes() {
			s := stateAt(lastTrue, nil, heldWith(mostHeld))
			s.Held[at] = h
			wantGoodState(t, s, isState(s))
			h.Txn = at + 1
			s.Held[at] = h
			wantGoodState(t, s, isState(s))
		}
		for time := range 8 {
			s := stateAt(6, cells(cell("w", ver(2, "1"))), heldWith(mostHeld))
			s.Held[at].Time = time
			wantGoodState(t, s, isWithin(time, 1, 6))
			s.Held[at].Writes = writes(store("w", "2"))
			wantGoodState(t, s, isWithin(time, 3, 6))
			s.Held[at].Writes = writes(drop("r"))
			wantGoodState(t, s, false)
		}
	}
	for at := range lastTxn {
		for _, o := range badTold() {
			s := stateAt(9, nil, nil, toldWith(lastTxn)...)
			s.Told[at] = o
			wantGoodState(t, s, isState(s))
			o.Txn = at + 1
			s.Told[at] = o
			wantGoodState(t, s, isState(s))
		}
		for txn := range lastTxn + 2 {
			s := stateAt(9, nil, nil, toldWith(lastTxn)...)
			s.Told[at].Txn = txn
			wantGoodState(t, s, txn == at+1)
		}
	}
}

// TestNoTransactionIsPreparedAndDecided has each one in either list.
func TestNoTransactionIsPreparedAndDecided(t *testing.T) {
	for prepared := 1; prepared <= lastTxn; prepared++ {
		for decided := 1; decided <= lastTxn; decided++ {
			s := stateAt(5, nil, heldOnes(heldBy(prepared, 5, []string{"a"})), toldNo(decided))
			wantGoodState(t, s, prepared != decided)
		}
		s := stateAt(5, nil, heldOnes(heldBy(prepared, 5, []string{"a"})), slices.Delete(toldWith(lastTxn), prepared-1, prepared)...)
		wantGoodState(t, s, true)
	}
}

// TestGoodStateChecksEveryPair has two transactions that use a key among others that do not.
func TestGoodStateChecksEveryPair(t *testing.T) {
	for i := range 6 {
		for j := range 6 {
			if i == j {
				continue
			}
			for uses := range 16 {
				s := stateAt(5, nil, heldWith(6))
				for at, use := range map[int]int{i: uses & 3, j: uses >> 2} {
					if use&1 > 0 {
						s.Held[at].Reads = []string{"k", "r"}
					}
					if use&2 > 0 {
						s.Held[at].Writes = writes(store("k", "1"))
					}
				}
				oneWrites, otherWrites, oneReads, otherReads := uses&2 > 0, uses&8 > 0, uses&1 > 0, uses&4 > 0
				wantGoodState(t, s, !(oneWrites && (otherReads || otherWrites)) && !(otherWrites && oneReads))
			}
		}
	}
}

// TestGoodStateCountsKeysAndVersions has cells and prepared writes to some of their keys and to others.
func TestGoodStateCountsKeysAndVersions(t *testing.T) {
	for many := range mostCells + 2 {
		for first := 0; first <= many+1 && first < 30; first++ {
			w := manyWrites(40)
			held := heldOnes(heldBy(1, 5, nil, w[first:first+4]...), heldBy(2, 5, []string{"new"}, w[first+4:first+7]...))
			keys := max(many, first+7)
			if first > many {
				keys = many + 7
			}
			wantGoodState(t, stateAt(5, manyCells(many), held), keys <= mostCells)
		}
	}
	for n := 1; n <= mostVers+1; n++ {
		l := cells(cell("a", ver(1, "1")), cell("b", manyVers(n)...))
		wantGoodState(t, stateAt(50, l, heldOnes(heldBy(1, 40, nil, store("a", "1"), drop("b")))), n < mostVers)
		wantGoodState(t, stateAt(50, l, heldOnes(heldBy(1, 40, nil, store("a", "1")), heldBy(2, 40, nil, drop("b")))), n < mostVers)
		wantGoodState(t, stateAt(50, l, heldOnes(heldBy(1, 40, []string{"b"}, store("a", "1")))), n <= mostVers)
	}
}

func TestTheExampleOfTheStateMachine(t *testing.T) {
	p, d := prepare(1, 5, 0, nil, store("a", "1")), yes(kindDecide, 1, 9)
	done := stateAt(9, cells(cell("a", ver(9, "1"))), nil, toldYes(1, 9))
	wantStateOf(t, []impl.Rec{p, d, d}, done, []bool{true, true, false}, true)
	wantCellAt(t, done.Cells, "a", 9, "1", true, true)
	s := stateAt(5, nil, heldOnes(heldBy(1, 5, nil, store("a", "1"))))
	wantApply(t, impl.State{}, p, s, true)
	wantSettled(t, s, 4, true)
	wantBlocks(t, s, "a", 7, []int{1}, true)
}

func TestFitsStateBesidePreparedTransactions(t *testing.T) {
	s := stateAt(9, nil, heldOnes(heldBy(1, 5, []string{"a", "b"}, store("b", "1"), store("c", "1")), heldBy(7, 9, []string{"d"}, drop("e"))))
	for _, key := range []string{"a", "d", "f", "bb", "."} {
		wantFits(t, s, []string{key}, nil, true, true)
	}
	for _, key := range []string{"b", "c", "e"} {
		wantFits(t, s, []string{key}, nil, false, true)
		wantFits(t, s, []string{".", key, "z"}, nil, false, true)
		wantFits(t, s, []string{key}, writes(store("x", "1")), false, true)
	}
	for _, key := range []string{"f", "bb", "."} {
		wantFits(t, s, nil, writes(store(key, "1")), true, true)
		wantFits(t, s, nil, writes(drop(key)), true, true)
		wantFits(t, s, []string{key}, writes(drop(key)), true, true)
	}
	for _, key := range []string{"a", "b", "c", "d", "e"} {
		wantFits(t, s, nil, writes(store(key, "1")), false, true)
		wantFits(t, s, nil, writes(drop(key)), false, true)
		wantFits(t, s, nil, writes(store(".", "1"), store(key, "1"), drop("z")), false, true)
		wantFits(t, s, []string{"a"}, writes(store(key, "1")), false, true)
	}
}

func TestFitsStateWithTheMostPreparedTransactions(t *testing.T) {
	for n := range mostHeld + 2 {
		s := stateAt(5, nil, heldWith(n))
		wantFits(t, s, []string{"r"}, nil, n < mostHeld, n <= mostHeld)
		wantFits(t, s, nil, writes(store("a", "1")), n < mostHeld, n <= mostHeld)
		wantFits(t, s, nil, writes(store("r", "1")), n == 0, n <= mostHeld)
	}
}

func TestFitsStateWithTheMostKeys(t *testing.T) {
	reads, w := longestParts()
	for many := range mostCells + 2 {
		for prepared := range 5 {
			for wanted := 1; wanted <= mostParts; wanted++ {
				s := stateAt(5, manyCells(many), nil)
				if prepared > 0 {
					// The first key has a cell, unless there are none.
					s.Held = heldOnes(heldBy(1, 5, nil, append(manyWrites(1), store("x", "1"), store("y", "1"), drop("z"))[:prepared]...))
				}
				keys := many + prepared
				if many > 0 && prepared > 0 {
					keys--
				}
				wantFits(t, s, nil, w[:wanted], keys+wanted <= mostCells, keys <= mostCells)
				wantFits(t, s, reads, w[:wanted], keys+wanted <= mostCells, keys <= mostCells)
				wantFits(t, s, reads, nil, keys <= mostCells, keys <= mostCells)
			}
		}
	}
	full := stateAt(5, manyCells(mostCells), nil)
	wantFits(t, full, nil, manyWrites(mostParts), true, true)
	wantFits(t, full, nil, append(manyWrites(mostParts-1), store("z", "1")), false, true)
	wantFits(t, full, []string{"z"}, manyWrites(mostParts), true, true)
	wantFits(t, stateAt(5, manyCells(mostCells-1), nil), nil, append(manyWrites(mostParts-1), store("z", "1")), true, true)
}

func TestFitsStateWithTheMostVersions(t *testing.T) {
	for n := 1; n <= mostVers; n++ {
		s := stateAt(50, cells(cell("a", manyVers(n)...), cell("b", ver(1, "1"))), nil)
		wantFits(t, s, nil, writes(store("a", "1")), n < mostVers, true)
		wantFits(t, s, nil, writes(store("0", "1"), drop("a"), drop("b")), n < mostVers, true)
		wantFits(t, s, []string{"a"}, nil, true, true)
		wantFits(t, s, []string{"a"}, writes(store("b", "1")), true, true)
		wantFits(t, s, []string{"a"}, writes(store("a", "1")), n < mostVers, true)
	}
}

// TestFitsStateNeitherAsksForATimeNorForANumber has states in which no record could be applied.
func TestFitsStateNeitherAsksForATimeNorForANumber(t *testing.T) {
	for _, s := range []impl.State{stateAt(lastTrue, nil, nil), stateAt(5, nil, nil, toldWith(lastTxn)...), stateAt(lastTrue, nil, heldWith(mostHeld-1), toldWith(lastTxn)[mostHeld-1:]...)} {
		wantFits(t, s, []string{"a"}, nil, true, true)
		wantFits(t, s, []string{"r"}, writes(store("a", "1")), true, true)
	}
}

func TestFitsStateRefusesInvalidParts(t *testing.T) {
	for _, s := range []impl.State{{}, stateAt(5, manyCells(3), heldWith(3), toldNo(9)), stateAt(5, nil, heldWith(mostHeld))} {
		for _, r := range append(badRecs(), goodRecs()...) {
			if r.Kind != kindPrepare {
				continue
			}
			fits, ok := modelFits(s, r.Reads, r.Writes)
			wantFits(t, s, r.Reads, r.Writes, fits, ok)
		}
		wantFits(t, s, nil, nil, false, false)
		wantFits(t, s, []string{}, []impl.Write{}, false, false)
		wantFits(t, s, manyKeys(mostParts), manyWrites(mostParts), len(s.Held) < mostHeld, true)
		wantFits(t, s, manyKeys(mostParts+1), nil, false, false)
		wantFits(t, s, nil, manyWrites(mostParts+1), false, false)
		wantFits(t, s, []string{"b", "a"}, nil, false, false)
		wantFits(t, s, nil, writes(store("a", "1"), drop("a")), false, false)
	}
}

func TestOutcomesAndPreparedTransactionsAreFound(t *testing.T) {
	h := impl.Held{Txn: 4, Time: 7, Lead: 2, Reads: []string{"a", "b"}, Writes: writes(store("c", "1"), drop("d"))}
	s := stateAt(9, nil, heldOnes(heldBy(2, 5, []string{"a"}), h, heldBy(lastTxn, 9, []string{"a"})), toldYes(1, 9), toldNo(3), toldYes(5, 1), toldNo(59))
	for txn := range lastTxn + 2 {
		prepared, decided := slices.Contains([]int{2, 4, lastTxn}, txn), slices.Contains([]int{1, 3, 5, 59}, txn)
		if _, ok := impl.HeldOf(s, txn); ok != prepared {
			t.Errorf("HeldOf %d is %v", txn, ok)
		}
		if _, ok := impl.OutcomeOf(s, txn); ok != decided {
			t.Errorf("OutcomeOf %d is %v", txn, ok)
		}
	}
	wantHeld(t, s, 2, heldBy(2, 5, []string{"a"}), true)
	wantHeld(t, s, 4, h, true)
	wantHeld(t, s, lastTxn, heldBy(lastTxn, 9, []string{"a"}), true)
	wantOutcome(t, s, 1, toldYes(1, 9), true)
	wantOutcome(t, s, 3, toldNo(3), true)
	wantOutcome(t, s, 5, toldYes(5, 1), true)
	wantOutcome(t, s, 59, toldNo(59), true)
	wantOutcome(t, s, 6, impl.Told{}, false)
	wantHeld(t, s, 5, impl.Held{}, false)
	full := stateAt(5, nil, nil, toldWith(lastTxn)...)
	for _, txn := range oddInts {
		wantOutcome(t, impl.State{}, txn, impl.Told{}, false)
		wantHeld(t, impl.State{}, txn, impl.Held{}, false)
		o, ok := modelOutcome(full, txn)
		wantOutcome(t, full, txn, o, ok)
	}
}

func TestSettledTo(t *testing.T) {
	for _, floor := range []int{0, 1, 9, lastTrue} {
		wantSettled(t, stateAt(floor, nil, nil, toldNo(1)), floor, true)
	}
	for time := 1; time <= 9; time++ {
		wantSettled(t, stateAt(9, nil, heldOnes(heldBy(1, time, []string{"a"}))), time-1, true)
		wantSettled(t, stateAt(9, nil, heldOnes(heldBy(1, 5, []string{"a"}), heldBy(2, time, nil, drop("b")), heldBy(3, 6, nil, drop("c")))), min(time, 5)-1, true)
		wantSettled(t, stateAt(9, cells(cell("b", ver(9, "1"))), heldOnes(heldBy(1, 9, []string{"a"}), heldBy(2, 9, nil, drop("a1")), heldBy(3, time, nil, drop("c"))), toldYes(4, 9)), min(time, 9)-1, true)
	}
	wantSettled(t, stateAt(lastTrue, nil, heldOnes(heldBy(1, lastTrue, []string{"a"}))), lastTrue-1, true)
	wantSettled(t, stateAt(lastTrue, nil, heldOnes(heldBy(1, 1, []string{"a"}))), 0, true)
}

func TestBlocksKey(t *testing.T) {
	held := heldOnes(heldBy(1, 5, []string{"r"}, store("a", "1"), store("b", "1")), heldBy(2, 3, []string{"r"}), heldBy(3, 9, []string{"r"}, drop("c")), heldBy(9, 2, nil, store("d", "")))
	s := stateAt(9, cells(cell("a", ver(1, "1"))), held)
	since := map[string]int{"a": 5, "b": 5, "c": 9, "d": 2}
	txns := map[string][]int{"a": {1}, "b": {1}, "c": {3}, "d": {9}}
	for _, key := range []string{"a", "b", "c", "d", "r", "aa", ".", "z"} {
		for _, time := range append([]int{2, 3, 4, 7, 8, 9, 10}, oddTimes...) {
			var want []int
			if since[key] > 0 && isWithin(time, since[key], lastTrue) {
				want = txns[key]
			}
			wantBlocks(t, s, key, time, want, isWithin(time, 0, lastTrue))
		}
	}
	for _, key := range badKeys() {
		wantBlocks(t, s, key, 9, nil, false)
	}
	last := stateAt(lastTrue, nil, heldOnes(heldBy(1, lastTrue, nil, drop("a"))))
	wantBlocks(t, last, "a", lastTrue-1, nil, true)
	wantBlocks(t, last, "a", lastTrue, []int{1}, true)
	wantBlocks(t, last, "a", lastTrue+1, nil, false)
	wantBlocks(t, last, "a", 0, nil, true)
	wantBlocks(t, last, "a", -1, nil, false)
	wantBlocks(t, impl.State{}, "a", 0, nil, true)
}

func TestApplyingAFloor(t *testing.T) {
	for _, floor := range []int{0, 1, 9, lastTrue - 1, lastTrue} {
		for _, time := range []int{1, floor - 1, floor, floor + 1, floor + 2, lastTrue} {
			s := stateAt(floor, nil, nil, toldNo(3))
			if time > floor && time <= lastTrue {
				wantApply(t, s, floorAt(time), stateAt(time, nil, nil, toldNo(3)), true)
			} else {
				wantNotApplied(t, s, floorAt(time))
			}
		}
	}
	for _, s := range goodStates() {
		next := cloneState(s)
		next.Floor = lastTrue
		if s.Floor < lastTrue {
			wantApply(t, s, floorAt(lastTrue), next, true)
		}
		wantNotApplied(t, s, floorAt(s.Floor))
	}
}

func TestApplyingAPreparation(t *testing.T) {
	w := writes(store("x", "1"), drop("y"))
	s := stateAt(9, cells(cell("a", ver(9, "1"))), heldOnes(heldBy(2, 5, []string{"a"}), heldBy(4, 9, []string{"b"}, drop("c"))), toldNo(1), toldYes(6, 9))
	for _, txn := range []int{3, 5, 7, lastTxn} {
		for _, time := range []int{1, 8, 9, 10, 11, lastTrue} {
			r := prepare(txn, time, 3, []string{"a", "x"}, w...)
			h := impl.Held{Txn: txn, Time: time, Lead: 3, Reads: r.Reads, Writes: w}
			next := cloneState(s)
			next.Floor = time
			at := map[int]int{3: 1, 5: 2, 7: 2, lastTxn: 2}[txn]
			next.Held = slices.Insert(next.Held, at, h)
			if time > 9 {
				wantApply(t, s, r, next, true)
			} else {
				wantNotApplied(t, s, r)
			}
		}
	}
	for _, txn := range []int{1, 2, 4, 6} {
		for _, time := range []int{9, 10, lastTrue} {
			wantNotApplied(t, s, prepare(txn, time, 0, []string{"x"}))
			wantNotApplied(t, s, prepare(txn, time, 0, nil, w...))
		}
	}
	for _, r := range []impl.Rec{
		prepare(3, 10, 0, []string{"c"}), prepare(3, 10, 0, nil, drop("c")), prepare(3, 10, 0, nil, drop("b")), prepare(3, 10, 0, nil, store("a", "2")), prepare(3, 10, 0, []string{"a", "c"}, w...),
	} {
		wantNotApplied(t, s, r)
	}
	h := heldBy(1, 6, nil, store("a", "2"))
	wantApply(t, stateAt(5, cells(cell("a", ver(5, "1"))), nil), prepare(1, 6, 0, nil, store("a", "2")), stateAt(6, cells(cell("a", ver(5, "1"))), heldOnes(h)), true)
	wantNotApplied(t, stateAt(lastTrue, nil, nil), prepare(1, lastTrue, 0, []string{"a"}))
}

// TestApplyingAPreparationNeedsRoom has exactly as much room as is needed, and less.
func TestApplyingAPreparationNeedsRoom(t *testing.T) {
	add := func(s impl.State, h impl.Held) impl.State {
		next := cloneState(s)
		next.Floor, next.Held = h.Time, append(next.Held, h)
		return next
	}
	for n := range mostHeld + 1 {
		s, r, h := stateAt(5, nil, heldWith(n)), prepare(40, 6, 0, []string{"r"}), heldBy(40, 6, []string{"r"})
		if n < mostHeld {
			wantApply(t, s, r, add(s, h), true)
		} else {
			wantNotApplied(t, s, r)
		}
	}
	for n := 10; n <= mostCells; n++ {
		s, w := stateAt(5, manyCells(n), nil), writes(store("k0000", "2"), store("x", "1"), store("y", "1"), store("z", "1"))
		if n <= mostCells-3 {
			wantApply(t, s, prepare(40, 6, 0, nil, w...), add(s, heldBy(40, 6, nil, w...)), true)
		} else {
			wantNotApplied(t, s, prepare(40, 6, 0, nil, w...))
		}
	}
	for n := 1; n <= mostVers; n++ {
		s := stateAt(20, cells(cell("a", manyVers(n)...)), nil)
		if n < mostVers {
			wantApply(t, s, prepare(1, 21, 0, nil, drop("a")), add(s, heldBy(1, 21, nil, drop("a"))), true)
		} else {
			wantNotApplied(t, s, prepare(1, 21, 0, nil, drop("a")))
		}
	}
}

func TestApplyingAPositiveOutcome(t *testing.T) {
	one, two, three := heldBy(2, 5, []string{"r"}, store("a", "2"), drop("b")), heldBy(3, 8, []string{"r"}, store("c", "1")), heldBy(7, 12, []string{"r"})
	s := stateAt(12, cells(cell("a", ver(3, "1"), gone(4)), cell("b", ver(4, "1"))), heldOnes(one, two, three), toldNo(1), toldYes(5, 3))
	for _, kind := range []int{kindDecide, kindDone} {
		for _, time := range []int{1, 3, 4} {
			wantNotApplied(t, s, yes(kind, 2, time))
		}
		for _, time := range []int{5, 6, 11, 12, 13, lastTrue} {
			put := cells(cell("a", ver(3, "1"), gone(4), ver(time, "2")), cell("b", ver(4, "1"), gone(time)))
			wantApply(t, s, yes(kind, 2, time), stateAt(max(12, time), put, heldOnes(two, three), toldNo(1), toldYes(2, time), toldYes(5, 3)), true)
		}
		for _, time := range []int{7, 8, 9} {
			if time < 8 {
				wantNotApplied(t, s, yes(kind, 3, time))
				continue
			}
			put := append(cloneCells(s.Cells), cell("c", ver(time, "1")))
			wantApply(t, s, yes(kind, 3, time), stateAt(12, put, heldOnes(one, three), toldNo(1), toldYes(3, time), toldYes(5, 3)), true)
		}
		wantNotApplied(t, s, yes(kind, 7, 11))
		wantApply(t, s, yes(kind, 7, 12), stateAt(12, s.Cells, heldOnes(one, two), toldNo(1), toldYes(5, 3), toldYes(7, 12)), true)
		wantApply(t, s, yes(kind, 7, 20), stateAt(20, s.Cells, heldOnes(one, two), toldNo(1), toldYes(5, 3), toldYes(7, 20)), true)
		for _, txn := range []int{1, 4, 5, 6, lastTxn} {
			for _, time := range []int{1, 3, 12, 13, lastTrue} {
				wantNotApplied(t, s, yes(kind, txn, time))
			}
		}
	}
}

func TestApplyingANegativeOutcome(t *testing.T) {
	one, two := heldBy(2, 5, []string{"r"}, store("a", "2"), drop("b")), heldBy(3, 8, []string{"r"}, store("c", "1"))
	l := cells(cell("a", ver(3, "1"), gone(4)), cell("b", ver(4, "1")))
	s := stateAt(12, l, heldOnes(one, two), toldNo(1), toldYes(5, 3))
	for _, kind := range []int{kindDecide, kindDone} {
		wantApply(t, s, no(kind, 2), stateAt(12, l, heldOnes(two), toldNo(1), toldNo(2), toldYes(5, 3)), true)
		wantApply(t, s, no(kind, 3), stateAt(12, l, heldOnes(one), toldNo(1), toldNo(3), toldYes(5, 3)), true)
		wantApply(t, s, no(kind, 4), stateAt(12, l, heldOnes(one, two), toldNo(1), toldNo(4), toldYes(5, 3)), true)
		wantApply(t, s, no(kind, lastTxn), stateAt(12, l, heldOnes(one, two), toldNo(1), toldYes(5, 3), toldNo(lastTxn)), true)
		wantApply(t, impl.State{}, no(kind, 1), stateAt(0, nil, nil, toldNo(1)), true)
		wantNotApplied(t, s, no(kind, 1))
		wantNotApplied(t, s, no(kind, 5))
	}
	for txn := 1; txn <= lastTxn; txn++ {
		told := toldWith(lastTxn)
		missing := slices.Delete(slices.Clone(told), txn-1, txn)
		told[txn-1] = toldNo(txn)
		wantApply(t, stateAt(5, nil, nil, missing...), no(kindDone, txn), stateAt(5, nil, nil, told...), true)
		wantApply(t, stateAt(5, nil, heldOnes(heldBy(txn, 5, []string{"a"})), missing...), no(kindDecide, txn), stateAt(5, nil, nil, told...), true)
		wantNotApplied(t, stateAt(5, nil, nil, told...), no(kindDecide, txn))
	}
}

// TestARepeatedOutcomeIsRefused has all pairs of outcomes of one transaction.
func TestARepeatedOutcomeIsRefused(t *testing.T) {
	first := stateAt(5, nil, heldOnes(heldBy(1, 5, nil, store("a", "1"))))
	all := []impl.Rec{yes(kindDecide, 1, 5), yes(kindDone, 1, 5), yes(kindDecide, 1, 9), yes(kindDone, 1, 9), no(kindDecide, 1), no(kindDone, 1)}
	for _, r := range all {
		s, ok := impl.ApplyRec(first, r)
		if !ok {
			t.Fatalf("%v is refused", r)
		}
		for _, again := range append(all, prepare(1, 20, 0, nil, store("a", "1")), prepare(1, 20, 0, []string{"b"}), yes(kindDone, 1, lastTrue)) {
			wantNotApplied(t, s, again)
		}
		wantOutcome(t, s, 1, impl.Told{Txn: 1, Yes: r.Yes, Time: r.Time}, true)
	}
}

func TestInvalidRecsAreRefused(t *testing.T) {
	states := []impl.State{{}, stateAt(9, manyCells(3), heldOnes(heldBy(1, 5, []string{"a"}, store("b", "1")), heldBy(3, 9, []string{"a"})), toldNo(2))}
	for _, r := range badRecs() {
		for _, s := range states {
			wantNotApplied(t, s, r)
		}
		wantStateOf(t, []impl.Rec{r}, impl.State{}, nil, false)
	}
	for _, r := range goodRecs() {
		for _, s := range states {
			next, ok := modelApply(s, r)
			wantApply(t, s, r, next, ok)
		}
	}
}

// TestEveryKindOnEveryState applies records around all times, numbers and keys of the states that meet the limits.
func TestEveryKindOnEveryState(t *testing.T) {
	for _, s := range goodStates() {
		for _, txn := range []int{1, 2, 3, 4, 12, 13, 59, lastTxn} {
			l := []impl.Rec{no(kindDecide, txn), no(kindDone, txn)}
			for _, time := range []int{1, 2, 4, 5, 6, 8, 9, 10, mostVers, mostVers + 1, lastTrue} {
				l = append(l, yes(kindDecide, txn, time), yes(kindDone, txn, time), floorAt(time))
				for _, key := range []string{"a", "b", "c", "d", "r", "k0000", "k0016", "k0023", "x"} {
					l = append(l, prepare(txn, time, 0, []string{key}), prepare(txn, time, 2, nil, store(key, "9")), prepare(txn, time, 2, []string{key}, drop("z")))
				}
			}
			for _, r := range l {
				next, ok := modelApply(s, r)
				wantApply(t, s, r, next, ok)
			}
		}
	}
}

func TestStateOfSkipsWhatIsNotApplicable(t *testing.T) {
	l := []impl.Rec{
		yes(kindDecide, 1, 3), floorAt(4), floorAt(4), prepare(1, 4, 0, nil, store("a", "1")), prepare(1, 5, 0, nil, store("a", "1")), prepare(2, 6, 0, []string{"a"}),
		prepare(2, 6, 1, []string{"b"}, drop("c")), prepare(2, 7, 1, []string{"b"}), yes(kindDone, 1, 4), yes(kindDone, 1, 6), no(kindDecide, 1),
		prepare(3, 6, 0, nil, store("a", "3")), prepare(3, 8, 0, nil, store("a", "3")),
		no(kindDone, 2), no(kindDecide, 2), yes(kindDecide, 3, 10), floorAt(10), floorAt(12), no(kindDecide, 9),
	}
	did := []bool{false, true, false, false, true, false, true, false, false, true, false, false, true, true, false, true, false, true, true}
	want := stateAt(12, cells(cell("a", ver(6, "1"), ver(10, "3"))), nil, toldYes(1, 6), toldNo(2), toldYes(3, 10), toldNo(9))
	wantStateOf(t, l, want, did, true)
	var applied []impl.Rec
	for i, r := range l {
		if did[i] {
			applied = append(applied, r)
		}
	}
	wantStateOf(t, applied, want, slices.Repeat([]bool{true}, len(applied)), true)
	for n := range len(l) {
		s, did, ok := modelStateOf(l[:n])
		wantStateOf(t, l[:n], s, did, ok)
	}
}

func TestStateOfTheMostRecs(t *testing.T) {
	wantStateOf(t, nil, impl.State{}, nil, true)
	wantStateOf(t, []impl.Rec{}, impl.State{}, nil, true)
	var l []impl.Rec
	for time := range mostEntries + 2 {
		l = append(l, floorAt(time+1))
	}
	for n := range len(l) + 1 {
		if n <= mostEntries {
			wantStateOf(t, l[:n], stateAt(n, nil, nil), slices.Repeat([]bool{true}, n), true)
		} else {
			wantStateOf(t, l[:n], impl.State{}, nil, false)
		}
	}
	wantStateOf(t, slices.Repeat([]impl.Rec{floorAt(1)}, mostEntries), stateAt(1, nil, nil), append([]bool{true}, make([]bool, mostEntries-1)...), true)
	wantStateOf(t, slices.Repeat([]impl.Rec{floorAt(1)}, mostEntries+1), impl.State{}, nil, false)
	for at := range mostEntries {
		for _, bad := range []impl.Rec{{}, floorAt(0), floorAt(lastTrue + 1), prepare(1, 1, 0, nil), yes(kindDecide, lastTxn+1, 1), {Kind: kindDone, Txn: 1, Time: 1}} {
			bads := slices.Clone(l[:mostEntries])
			bads[at] = bad
			wantStateOf(t, bads, impl.State{}, nil, false)
			wantStateOf(t, bads[:at+1], impl.State{}, nil, false)
			wantStateOf(t, bads[:at], stateAt(at, nil, nil), slices.Repeat([]bool{true}, at), true)
		}
	}
	var outcomes []impl.Rec
	for txn := 1; txn <= lastTxn; txn++ {
		outcomes = append(outcomes, no(kindDecide, lastTxn+1-txn))
	}
	s, did, ok := modelStateOf(outcomes)
	wantStateOf(t, outcomes, s, did, ok)
}

// TestSameState changes each field alone.
func TestSameState(t *testing.T) {
	h := impl.Held{Txn: 1, Time: 5, Lead: 2, Reads: []string{"a", "b"}, Writes: writes(store("c", "1"), drop("d"))}
	s := stateAt(9, cells(cell("a", ver(3, "1"), gone(4)), cell("b", ver(9, "2"))), heldOnes(h, heldBy(2, 9, []string{"a"})), toldNo(3), toldYes(4, 9))
	changes := []func(s *impl.State){
		func(s *impl.State) { s.Floor++ },
		func(s *impl.State) { s.Floor = -1 },
		func(s *impl.State) { s.Cells = nil },
		func(s *impl.State) { s.Cells = s.Cells[:1] },
		func(s *impl.State) { s.Cells[0].Key = "aa" },
		func(s *impl.State) { s.Cells[1].Vers[0].Time++ },
		func(s *impl.State) { s.Cells[0].Vers[0].Val = "2" },
		func(s *impl.State) { s.Cells[0].Vers[1].Gone = false },
		func(s *impl.State) { s.Cells[0].Vers = s.Cells[0].Vers[:1] },
		func(s *impl.State) { s.Cells[1].Vers = nil },
		func(s *impl.State) { s.Held = nil },
		func(s *impl.State) { s.Held = s.Held[:1] },
		func(s *impl.State) { s.Held[0].Txn++ },
		func(s *impl.State) { s.Held[1].Txn = lastTxn },
		func(s *impl.State) { s.Held[0].Time-- },
		func(s *impl.State) { s.Held[0].Lead = 0 },
		func(s *impl.State) { s.Held[0].Reads = nil },
		func(s *impl.State) { s.Held[0].Reads[1] = "c" },
		func(s *impl.State) { s.Held[0].Reads = s.Held[0].Reads[:1] },
		func(s *impl.State) { s.Held[0].Writes = nil },
		func(s *impl.State) { s.Held[0].Writes[0].Key = "cc" },
		func(s *impl.State) { s.Held[0].Writes[0].Val = "" },
		func(s *impl.State) { s.Held[0].Writes[1].Gone = false },
		func(s *impl.State) { s.Held[0].Writes = s.Held[0].Writes[1:] },
		func(s *impl.State) { s.Held[0], s.Held[1] = s.Held[1], s.Held[0] },
		func(s *impl.State) { s.Held = append(s.Held, impl.Held{}) },
		func(s *impl.State) { s.Told = nil },
		func(s *impl.State) { s.Told = s.Told[:1] },
		func(s *impl.State) { s.Told[0].Txn++ },
		func(s *impl.State) { s.Told[0].Yes = true },
		func(s *impl.State) { s.Told[1].Time-- },
		func(s *impl.State) { s.Told[0], s.Told[1] = s.Told[1], s.Told[0] },
		func(s *impl.State) { s.Told = append(s.Told, impl.Told{}) },
	}
	bad := cloneState(s)
	bad.Floor, bad.Held[1].Reads, bad.Told[0].Time, bad.Cells[1].Key = math.MinInt, []string{""}, -7, "a"
	for _, base := range []impl.State{s, bad} {
		wantSameState(t, base, cloneState(base), true)
		wantSameState(t, base, impl.State{}, false)
		for i, change := range changes {
			changed := cloneState(base)
			change(&changed)
			if equalState(changed, base) {
				t.Fatalf("change %d changes nothing", i)
			}
			wantSameState(t, base, changed, false)
		}
	}
	empty := impl.State{Cells: []impl.Cell{}, Held: []impl.Held{}, Told: []impl.Told{}}
	wantSameState(t, impl.State{}, empty, true)
	wantSameState(t, stateAt(1, cells(cell("a")), heldOnes(impl.Held{})), stateAt(1, cells(cell("a", []impl.Ver{}...)), heldOnes(impl.Held{Reads: []string{}, Writes: []impl.Write{}})), true)
}

var stateKeys = []string{".", "a", "a/1", "b", "c", "d", "e", "f", "g", "h", "k", "l", "m", "n", "o", "p"}

// fewOf returns up to most keys in increasing order, seldom all of them.
func fewOf(r *rand.Rand, most int) []string {
	var keys []string
	for range min(r.IntN(most+1), r.IntN(most+1)) {
		keys = append(keys, stateKeys[r.IntN(len(stateKeys))])
	}
	slices.Sort(keys)
	return slices.Compact(keys)
}

// randomStateRec is a valid record that is applicable to the state in many cases and not in as many others.
func randomStateRec(r *rand.Rand, s impl.State) impl.Rec {
	txn, time := 1+r.IntN(lastTxn), min(lastTrue, max(1, s.Floor-3+r.IntN(9)))
	kind := kindDecide + r.IntN(2)
	if len(s.Held) > 0 && r.IntN(3) > 0 {
		h := s.Held[r.IntN(len(s.Held))]
		txn = h.Txn
		if r.IntN(2) == 0 {
			time = max(1, h.Time-1+r.IntN(4))
		}
	}
	switch r.IntN(12) {
	case 0:
		return floorAt(time)
	case 1:
		return no(kind, txn)
	case 2, 3, 4, 5:
		return yes(kind, txn, time)
	}
	if r.IntN(4) > 0 {
		txn, time = 1+r.IntN(lastTxn), min(lastTrue, s.Floor+1+r.IntN(2))
	}
	reads, w := fewOf(r, 3), []impl.Write(nil)
	for _, key := range fewOf(r, 4) {
		w = append(w, []impl.Write{store(key, ""), store(key, "7"), store(key, "x"), drop(key)}[r.IntN(4)])
	}
	if len(reads)+len(w) == 0 {
		reads = []string{"only"}
	}
	return prepare(txn, time, r.IntN(lastLead+1), reads, w...)
}

// startOf is a floor near the beginning or the end of all times.
func startOf(r *rand.Rand) impl.State {
	return stateAt([]int{0, 0, 0, 10, lastTrue - 15}[r.IntN(5)], nil, nil)
}

func TestApplyRecAgreesWithTheModel(t *testing.T) {
	r := rand.New(rand.NewPCG(131, 131))
	applied, refused := map[string]int{}, map[string]int{}
	for range 1500 {
		s := startOf(r)
		for range mostEntries {
			rec := randomStateRec(r, s)
			next, ok := modelApply(s, rec)
			wantApply(t, s, rec, next, ok)
			name := fmt.Sprint(rec.Kind, rec.Yes)
			if ok {
				applied[name]++
				s = next
			} else {
				refused[name]++
			}
		}
		wantModelState(t, s)
	}
	if len(applied) != 6 || len(refused) != 6 {
		t.Errorf("only these were applied: %v, and only these refused: %v", applied, refused)
	}
	for name, n := range applied {
		if n < 300 || refused[name] < 150 {
			t.Errorf("%s was applied %d times and refused %d times", name, n, refused[name])
		}
	}
}

func randomStateLog(r *rand.Rand, n int) []impl.Rec {
	var l []impl.Rec
	s := impl.State{}
	for range n {
		rec := randomStateRec(r, s)
		if next, ok := modelApply(s, rec); ok {
			s = next
		}
		l = append(l, rec)
	}
	return l
}

func TestStateOfAgreesWithTheModel(t *testing.T) {
	r := rand.New(rand.NewPCG(132, 132))
	for range 1500 {
		l := randomStateLog(r, r.IntN(mostEntries+2))
		if r.IntN(2) == 0 {
			r.Shuffle(len(l), func(i int, j int) { l[i], l[j] = l[j], l[i] })
		}
		s, did, ok := modelStateOf(l)
		wantStateOf(t, l, s, did, ok)
	}
}

// spoiltState changes one field of a state that may be at its limits; the result may still be valid.
func spoiltState(r *rand.Rand, s impl.State) impl.State {
	s = cloneState(s)
	by := []int{-1, 1, 1, 2, -s.Floor, s.Floor, lastTrue}[r.IntN(7)]
	i, j := r.IntN(max(1, len(s.Held))), r.IntN(max(1, len(s.Told)))
	switch choice := r.IntN(10); {
	case choice == 0:
		s.Floor += by
	case choice == 1 && len(s.Cells) > 0:
		vers := s.Cells[r.IntN(len(s.Cells))].Vers
		vers[r.IntN(len(vers))].Time += by
	case choice == 2 && len(s.Held) > 0:
		s.Held[i].Time += by
	case choice == 3 && len(s.Held) > 0:
		s.Held[i].Txn += by
	case choice == 4 && len(s.Held) > 0:
		s.Held[i].Reads = fewOf(r, 3)
	case choice == 5 && len(s.Held) > 0:
		s.Held[i].Writes = writes(drop(stateKeys[r.IntN(len(stateKeys))]))
	case choice == 6 && len(s.Told) > 0:
		s.Told[j].Time += by
	case choice == 7 && len(s.Told) > 0:
		s.Told[j].Txn += by
	case choice == 8 && len(s.Told) > 0:
		s.Told[j].Yes = !s.Told[j].Yes
	default:
		s.Cells = append(s.Cells, manyCells(r.IntN(mostCells))...)
		slices.SortFunc(s.Cells, func(a impl.Cell, b impl.Cell) int { return strings.Compare(a.Key, b.Key) })
	}
	return s
}

func TestGoodStateAgreesWithTheModel(t *testing.T) {
	r := rand.New(rand.NewPCG(133, 133))
	good, bad := 0, 0
	for range 1500 {
		s, _, _ := modelStateOf(randomStateLog(r, r.IntN(mostEntries+1)))
		for range 20 {
			spoilt := spoiltState(r, s)
			wantGoodState(t, spoilt, isState(spoilt))
			reads, w := fewOf(r, 3), writes(store(stateKeys[r.IntN(len(stateKeys))], "1"))
			fits, ok := modelFits(spoilt, reads, w)
			wantFits(t, spoilt, reads, w, fits, ok)
			if ok {
				good++
			} else {
				bad++
			}
		}
	}
	if good < 5000 || bad < 5000 {
		t.Errorf("%d of the states were valid and %d not, which is too few", good, bad)
	}
}

// freeNumber relies on a transaction that is neither prepared nor decided.
func freeNumber(s impl.State) int {
	txn := 1
	for isUsed(s, txn) && txn < lastTxn {
		txn++
	}
	return txn
}

func isUsed(s impl.State, txn int) bool {
	_, prepared := modelHeld(s, txn)
	_, decided := modelOutcome(s, txn)
	return prepared || decided
}

// TestFittingIsWhatPreparingNeeds prepares with the next time and a free number.
func TestFittingIsWhatPreparingNeeds(t *testing.T) {
	r := rand.New(rand.NewPCG(134, 134))
	answers := map[bool]int{}
	for range 3000 {
		l := randomStateLog(r, r.IntN(mostEntries))
		s, _, _ := impl.StateOf(l)
		p := randomStateRec(r, impl.State{})
		if p.Kind != kindPrepare {
			continue
		}
		p.Time = s.Floor + 1
		p.Txn = freeNumber(s)
		fits, ok := impl.FitsState(s, p.Reads, p.Writes)
		if _, applied := impl.ApplyRec(s, p); applied != fits || !ok {
			t.Fatalf("FitsState(%s, %s, %s) = %v, %v, but ApplyRec is %v", short(s), short(p.Reads), short(p.Writes), fits, ok, applied)
		}
		answers[fits]++
	}
	if answers[true] < 200 || answers[false] < 200 {
		t.Errorf("the answers were given only %v times", answers)
	}
}

// A stateBook keeps what the promise is about: every outcome, the snapshots at settled times, and the values of keys that were not blocked.
type stateBook struct {
	outcomes map[int]impl.Told
	snaps    map[int][]impl.Write
	looks    map[string]string
	settled  int
	unstable int
}

func newStateBook() *stateBook {
	return &stateBook{outcomes: map[int]impl.Told{}, snaps: map[int][]impl.Write{}, looks: map[string]string{}}
}

func mustSnap(t *testing.T, s impl.State, time int) []impl.Write {
	t.Helper()
	rows, ok := impl.CellsAt(s.Cells, time)
	if !ok {
		t.Fatalf("CellsAt(%v, %d) fails", s.Cells, time)
	}
	return rows
}

func (b *stateBook) check(t *testing.T, s impl.State) {
	t.Helper()
	wantGoodState(t, s, true)
	if !isState(s) {
		t.Fatalf("%s is not valid", short(s))
	}
	for txn := range lastTxn + 1 {
		o, decided := impl.OutcomeOf(s, txn)
		if first, before := b.outcomes[txn]; before && (!decided || o != first) {
			t.Fatalf("the outcome of %d was %v and becomes %v, %v", txn, first, o, decided)
		}
		if decided {
			b.outcomes[txn] = o
		}
	}
	settled, ok := impl.SettledTo(s)
	if !ok || settled < b.settled {
		t.Fatalf("the state is settled up to %d and then up to %d, %v", b.settled, settled, ok)
	}
	for time, rows := range b.snaps {
		if now := mustSnap(t, s, time); !slices.Equal(now, rows) {
			t.Fatalf("the snapshot at %d was %v and becomes %v", time, rows, now)
		}
	}
	for time := max(b.settled, settled-6); time <= settled; time++ {
		b.snaps[time] = mustSnap(t, s, time)
	}
	b.settled = settled
	b.checkLooks(t, s)
}

// checkLooks has keys at times up to the floor: without a block, their values are final.
func (b *stateBook) checkLooks(t *testing.T, s impl.State) {
	t.Helper()
	for time := max(0, s.Floor-4); time <= s.Floor; time++ {
		for _, key := range stateKeys {
			val, there, ok := impl.CellAt(s.Cells, key, time)
			blocks, blocksOK := impl.BlocksKey(s, key, time)
			if !ok || !blocksOK {
				t.Fatalf("%q cannot be looked at at %d", key, time)
			}
			name, now := fmt.Sprint(time, key), fmt.Sprint(val, there)
			before, looked := b.looks[name]
			if looked && before != now {
				t.Fatalf("%q at %d was %s and becomes %s", key, time, before, now)
			}
			if looked && len(blocks) > 0 {
				t.Fatalf("%q at %d is blocked by %v, but was not", key, time, blocks)
			}
			if len(blocks) == 0 {
				b.looks[name] = now
			}
		}
	}
}

// TestOutcomesAreFinalAndSettledSnapshotsStay applies more records than a log has room for, in any order.
func TestOutcomesAreFinalAndSettledSnapshotsStay(t *testing.T) {
	r := rand.New(rand.NewPCG(135, 135))
	outcomes, snaps, unstable, refused := 0, 0, 0, 0
	for range 300 {
		s, b := startOf(r), newStateBook()
		b.check(t, s)
		for range 2 * mostEntries {
			rec := randomStateRec(r, s)
			next, ok := impl.ApplyRec(s, rec)
			if !ok {
				refused++
				if !equalState(next, impl.State{}) {
					t.Fatalf("a refused record leaves %v", next)
				}
				continue
			}
			if !slices.Equal(mustSnap(t, s, s.Floor), mustSnap(t, next, s.Floor)) {
				b.unstable++
			}
			s = next
			b.check(t, s)
		}
		outcomes, snaps, unstable = outcomes+len(b.outcomes), snaps+len(b.snaps), unstable+b.unstable
	}
	if outcomes < 3000 || snaps < 3000 || unstable < 300 || refused < 3000 {
		t.Errorf("%d outcomes, %d snapshots, %d changed ones at times that were not settled, and %d refused records, which is too few", outcomes, snaps, unstable, refused)
	}
}

// TestShuffledLogsKeepThePromise reads every first part of logs whose records come in any order, some of them twice.
func TestShuffledLogsKeepThePromise(t *testing.T) {
	r := rand.New(rand.NewPCG(136, 136))
	applied := 0
	for range 250 {
		l := randomStateLog(r, mostEntries)
		for range r.IntN(mostEntries) {
			i, j := r.IntN(len(l)), r.IntN(len(l))
			if r.IntN(2) == 0 {
				l[i] = l[j]
			} else {
				l[i], l[j] = l[j], l[i]
			}
		}
		b := newStateBook()
		var before impl.State
		for n := range len(l) + 1 {
			s, did, ok := impl.StateOf(l[:n])
			if !ok || len(did) != n {
				t.Fatalf("StateOf(%s) = %v, %v", short(l[:n]), did, ok)
			}
			if n > 0 && !did[n-1] && !equalState(s, before) {
				t.Fatalf("%v is not applied, but changes %s to %s", l[n-1], short(before), short(s))
			}
			if n > 0 && did[n-1] {
				applied++
				wantApply(t, before, l[n-1], s, true)
			}
			b.check(t, s)
			before = s
		}
	}
	if applied < 2000 {
		t.Errorf("only %d records were applied", applied)
	}
}

// TestWritesAreSeenFromTheirTimeOn compares the snapshots before and after each positive outcome.
func TestWritesAreSeenFromTheirTimeOn(t *testing.T) {
	r := rand.New(rand.NewPCG(137, 137))
	commits := 0
	for range 300 {
		s := startOf(r)
		for range mostEntries {
			rec := randomStateRec(r, s)
			next, ok := impl.ApplyRec(s, rec)
			if !ok {
				continue
			}
			h, prepared := impl.HeldOf(s, rec.Txn)
			for time := max(0, s.Floor-8); time <= next.Floor; time++ {
				rows := mustSnap(t, s, time)
				if rec.Yes && time >= rec.Time {
					put, _ := modelPutRows(rows, h.Writes)
					rows = put
				}
				if now := mustSnap(t, next, time); !slices.Equal(now, rows) {
					t.Fatalf("%v leaves %v at %d, not %v", rec, now, time, rows)
				}
			}
			if rec.Yes {
				commits++
				if !prepared {
					t.Fatalf("%v is applied, but not prepared", rec)
				}
			}
			s = next
		}
	}
	if commits < 1000 {
		t.Errorf("only %d transactions were committed", commits)
	}
}

// TestWhatIsPreparedCanBeCommitted lets every prepared transaction of a log commit, in any order and at any time from its own on.
func TestWhatIsPreparedCanBeCommitted(t *testing.T) {
	r := rand.New(rand.NewPCG(138, 138))
	commits := 0
	commitAll := func(s impl.State) {
		for range len(s.Held) {
			h := s.Held[r.IntN(len(s.Held))]
			next, ok := impl.ApplyRec(s, yes(kindDecide+r.IntN(2), h.Txn, min(lastTrue, h.Time+r.IntN(20))))
			if !ok {
				t.Fatalf("%v cannot be committed in %s", h, short(s))
			}
			wantGoodState(t, next, true)
			s = next
			commits++
		}
	}
	for range 1000 {
		s, _, _ := impl.StateOf(randomStateLog(r, r.IntN(mostEntries)))
		commitAll(s)
	}
	for _, s := range goodStates() {
		commitAll(s)
	}
	if commits < 1000 {
		t.Errorf("only %d transactions were committed", commits)
	}
}
