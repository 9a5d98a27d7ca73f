package tests

import (
	"fmt"
	"slices"
	"testing"

	"loop.example/g00850/impl"
)

// oddStates has valid and invalid states, around the limits and far from them.
func oddStates() []impl.State {
	l := append(goodStates(), badStates()...)
	for _, n := range []int{1, 100000} {
		l = append(l, stateAt(9, make([]impl.Cell, n), nil), stateAt(9, nil, make([]impl.Held, n)), stateAt(9, nil, nil, make([]impl.Told, n)...))
		l = append(l, stateAt(9, nil, heldWith(n)), stateAt(9, nil, nil, toldWith(n)...))
		l = append(l, stateAt(9, nil, slices.Repeat(heldWith(1), n)), stateAt(9, nil, nil, slices.Repeat(toldWith(1), n)...))
	}
	for _, c := range oddCells() {
		l = append(l, stateAt(9, c, nil), stateAt(lastTrue, c, heldOnes(heldBy(1, 9, []string{"a"}, store("b", "1")))))
	}
	for _, n := range append(slices.Clone(oddInts), oddTimes...) {
		l = append(l, stateAt(n, nil, nil), stateAt(n, manyCells(2), heldWith(2), toldYes(5, n)))
		for _, h := range []impl.Held{heldBy(n, 5, []string{"a"}), heldBy(1, n, []string{"a"}), {Txn: 1, Time: 5, Lead: n, Reads: []string{"a"}}} {
			l = append(l, stateAt(9, nil, heldOnes(h)), stateAt(9, nil, heldOnes(heldBy(1, 5, []string{"a"}), h)))
		}
		for _, o := range []impl.Told{toldYes(n, 5), toldNo(n), toldYes(1, n), {Txn: 1, Time: n}} {
			l = append(l, stateAt(9, nil, nil, o), stateAt(9, nil, nil, toldNo(1), o), stateAt(9, nil, heldWith(1), o))
		}
	}
	for _, r := range oddParts() {
		l = append(l, stateAt(9, nil, heldOnes(heldBy(1, 5, r.Reads, r.Writes...))), stateAt(9, manyCells(3), heldOnes(heldBy(1, 5, []string{"a"}), heldBy(2, 5, r.Reads, r.Writes...))))
	}
	return l
}

func TestStatesAcceptAllArguments(t *testing.T) {
	states := oddStates()
	for _, s := range states {
		wantGoodState(t, s, isState(s))
		settled, ok := modelSettled(s)
		wantSettled(t, s, settled, ok)
		for _, txn := range []int{-1 << 63, 0, 1, 2, lastTxn, lastTxn + 1, 1<<63 - 1} {
			o, ok := modelOutcome(s, txn)
			wantOutcome(t, s, txn, o, ok)
			h, ok := modelHeld(s, txn)
			wantHeld(t, s, txn, h, ok)
		}
		for _, time := range []int{-1, 0, 9, lastTrue + 1} {
			txns, ok := modelBlocks(s, "a", time)
			wantBlocks(t, s, "a", time, txns, ok)
		}
		for _, r := range []impl.Rec{{}, floorAt(10), prepare(1, 10, 0, []string{"a"}), prepare(9, lastTrue, 3, nil, drop("b")), yes(kindDecide, 1, 9), no(kindDone, 2)} {
			next, ok := modelApply(s, r)
			wantApply(t, s, r, next, ok)
			fits, ok := modelFits(s, r.Reads, r.Writes)
			wantFits(t, s, r.Reads, r.Writes, fits, ok)
		}
		wantSameState(t, s, s, true)
	}
	for i := range states {
		a, b := states[i], states[(i*7+1)%len(states)]
		wantSameState(t, a, b, equalState(a, b))
	}
}

// statesToAsk are a few states for many other arguments.
func statesToAsk() []impl.State {
	return []impl.State{
		{}, stateAt(9, manyCells(3), heldOnes(heldBy(1, 5, []string{"a"}, store("b", "1")), heldBy(2, 9, []string{"c"})), toldNo(3), toldYes(4, 9)),
		stateAt(5, nil, heldWith(mostHeld)), stateAt(lastTrue, nil, nil), stateAt(-1, nil, nil),
	}
}

func TestFunctionsOfStatesAcceptAllArguments(t *testing.T) {
	for _, s := range statesToAsk() {
		for _, txn := range append(slices.Clone(oddInts), oddTimes...) {
			o, ok := modelOutcome(s, txn)
			wantOutcome(t, s, txn, o, ok)
			h, ok := modelHeld(s, txn)
			wantHeld(t, s, txn, h, ok)
		}
		for _, key := range append(oddStrings(), "a", "b", "c", "k0000", "zz") {
			for _, time := range []int{-1 << 63, -1, 0, 4, 5, 9, lastTrue, lastTrue + 1, 1<<63 - 1} {
				txns, ok := modelBlocks(s, key, time)
				wantBlocks(t, s, key, time, txns, ok)
			}
			fits, ok := modelFits(s, []string{key}, nil)
			wantFits(t, s, []string{key}, nil, fits, ok)
			fits, ok = modelFits(s, nil, writes(store(key, "1")))
			wantFits(t, s, nil, writes(store(key, "1")), fits, ok)
		}
		for _, p := range oddParts() {
			fits, ok := modelFits(s, p.Reads, p.Writes)
			wantFits(t, s, p.Reads, p.Writes, fits, ok)
		}
		for _, w := range oddWrites() {
			fits, ok := modelFits(s, []string{"a"}, w)
			wantFits(t, s, []string{"a"}, w, fits, ok)
		}
	}
}

func TestApplyingAcceptsAllRecs(t *testing.T) {
	var recs []impl.Rec
	for _, r := range oddParts() {
		for _, r.Kind = range []int{-1, 0, 1, 2, 3, 4, 5, 1 << 32} {
			for _, r.Txn = range []int{-1, 0, 1, 2, 3, lastTxn, lastTxn + 1, 1 << 62} {
				for _, r.Time = range []int{-1 << 63, -1, 0, 1, 5, 10, lastTrue, lastTrue + 1, 1<<63 - 1} {
					recs = append(recs, r)
					r.Yes = !r.Yes
					recs = append(recs, r)
				}
			}
		}
	}
	for _, s := range statesToAsk() {
		for _, r := range recs {
			next, ok := modelApply(s, r)
			wantApply(t, s, r, next, ok)
		}
	}
	for i, r := range recs {
		l := []impl.Rec{r, floorAt(3), recs[(i*31+7)%len(recs)]}
		s, did, ok := modelStateOf(l)
		wantStateOf(t, l, s, did, ok)
		s, did, ok = modelStateOf(l[:2])
		wantStateOf(t, l[:2], s, did, ok)
	}
	wantStateOf(t, make([]impl.Rec, mostEntries), impl.State{}, nil, false)
	wantStateOf(t, make([]impl.Rec, 1000000), impl.State{}, nil, false)
	wantStateOf(t, slices.Repeat([]impl.Rec{floorAt(1)}, 1000000), impl.State{}, nil, false)
}

// heldCells, heldPrepared and heldRecs leave out the slices in their elements, which are held on their own.
type heldCells []impl.Cell

func (l heldCells) text() string {
	s := ""
	for i, c := range l {
		s += fmt.Sprint(i, c.Key, len(c.Vers), " ")
	}
	return s
}

func (l heldCells) spoil() {
	l = l[:cap(l)]
	for i := range l {
		l[i] = impl.Cell{Key: "spoilt", Vers: l[i].Vers}
	}
}

type heldPrepared []impl.Held

func (l heldPrepared) text() string {
	s := ""
	for i, h := range l {
		s += fmt.Sprint(i, h.Txn, h.Time, h.Lead, len(h.Reads), len(h.Writes), " ")
	}
	return s
}

func (l heldPrepared) spoil() {
	l = l[:cap(l)]
	for i := range l {
		l[i] = impl.Held{Txn: -9, Time: -9, Lead: -9, Reads: l[i].Reads, Writes: l[i].Writes}
	}
}

type heldRecs []impl.Rec

func (l heldRecs) text() string {
	s := ""
	for i, r := range l {
		s += fmt.Sprint(i, numbersOf(r), " ")
	}
	return s
}

func (l heldRecs) spoil() {
	l = l[:cap(l)]
	for i := range l {
		l[i] = impl.Rec{Kind: -9, Reads: l[i].Reads, Writes: l[i].Writes}
	}
}

func slicesOfHeld(h impl.Held) []heldSlice {
	return []heldSlice{sliceOf[string](h.Reads), sliceOf[impl.Write](h.Writes)}
}

func slicesOfState(s impl.State) []heldSlice {
	held := []heldSlice{heldCells(s.Cells), heldPrepared(s.Held), sliceOf[impl.Told](s.Told)}
	for _, c := range s.Cells {
		held = append(held, sliceOf[impl.Ver](c.Vers))
	}
	for _, h := range s.Held {
		held = append(held, slicesOfHeld(h)...)
	}
	return held
}

// wholeOfState returns the slices of a state, and of records, with all that is behind their lengths.
func wholeOfState(s impl.State, l []impl.Rec) []heldSlice {
	c, held, l := s.Cells[:cap(s.Cells)], s.Held[:cap(s.Held)], l[:cap(l)]
	whole := []heldSlice{heldCells(c), heldPrepared(held), sliceOf[impl.Told](s.Told[:cap(s.Told)]), heldRecs(l)}
	for _, x := range c {
		whole = append(whole, sliceOf[impl.Ver](x.Vers[:cap(x.Vers)]))
	}
	for _, h := range held {
		whole = append(whole, sliceOf[string](h.Reads[:cap(h.Reads)]), sliceOf[impl.Write](h.Writes[:cap(h.Writes)]))
	}
	for _, r := range l {
		whole = append(whole, wholeOfRec(r)...)
	}
	return whole
}

// crowdedState returns a state whose slices are parts of longer ones, and which it shares in part; everything behind them is valid, too, and would be noticed.
func crowdedState() impl.State {
	vers := []impl.Ver{ver(3, "1"), gone(6), ver(7, "behind"), ver(8, "behind")}
	reads := []string{"a", "c", "e", "x", "y"}
	w := writes(store("b", "1"), drop("f"), store("g", "2"), store("x", "behind"), drop("y"))
	c := cells(cell("a", vers[:2]...), cell("b", vers[:3]...), cell("c", vers[:2]...), cell("f", vers[1:3]...), cell("h", vers...), cell("i", vers...))
	held := heldOnes(heldBy(2, 9, reads[:3], w[:2]...), heldBy(5, 12, reads[:2], w[2:3]...), heldBy(7, 10, reads[1:3]), heldBy(9, 12, reads, store("z", "1")), heldBy(11, 12, reads))
	told := []impl.Told{toldNo(1), toldYes(3, 6), toldYes(4, 7), toldNo(8), toldYes(10, 8)}
	return stateAt(12, c[:5], held[:3], told[:3]...)
}

// crowdedRecs are some of the records of a longer slice: at least one of each kind is applicable to crowdedState.
func crowdedRecs() []impl.Rec {
	reads := []string{"a", "k", "l", "m"}
	w := writes(store("k", "1"), drop("l"), store("m", "2"), store("n", "behind"))
	return []impl.Rec{
		prepare(6, 13, 1, reads[:2], w[:2]...), floorAt(13), yes(kindDecide, 2, 10), yes(kindDone, 5, 20), no(kindDecide, 7), no(kindDone, 9),
		prepare(20, 30, 0, reads[1:3], w[2:3]...), prepare(8, 40, 0, reads[:1]),
		yes(kindDone, 20, 31), yes(kindDecide, 6, 30), prepare(1, 50, 0, reads, w...), floorAt(60),
	}[:9]
}

func TestStatesNeitherChangeNorReadBehindTheirArguments(t *testing.T) {
	s, l := crowdedState(), crowdedRecs()
	before := textsOf(wholeOfState(s, l))
	alone := cloneState(s)
	var recs []impl.Rec
	for _, r := range l {
		recs = append(recs, cloneRec(r))
	}
	for range 2 {
		wantModelState(t, s)
		wantGoodState(t, s, true)
		wantSameState(t, s, alone, true)
		applied := 0
		for i, r := range l {
			next, ok := modelApply(alone, recs[i])
			wantApply(t, s, r, next, ok)
			fits, ok := modelFits(alone, recs[i].Reads, recs[i].Writes)
			wantFits(t, s, r.Reads, r.Writes, fits, ok)
			if next.Floor > 0 {
				applied++
			}
		}
		if applied < 7 {
			t.Fatalf("only %d records are applicable", applied)
		}
		for n := range len(l) + 1 {
			next, did, ok := modelStateOf(recs[:n])
			wantStateOf(t, l[:n], next, did, ok)
		}
		for _, key := range []string{"a", "b", "f", "g", "x", "y", "z", "h", "i"} {
			txns, ok := modelBlocks(alone, key, lastTrue)
			wantBlocks(t, s, key, lastTrue, txns, ok)
		}
		if now := textsOf(wholeOfState(s, l)); !slices.Equal(now, before) {
			t.Fatalf("the arguments become %v, before %v", now, before)
		}
	}
}

// resultsOfState returns the slices of the results of all functions for this state and these records.
func resultsOfState(t *testing.T, s impl.State, l []impl.Rec) [][]heldSlice {
	t.Helper()
	var results [][]heldSlice
	for _, r := range l {
		if next, ok := impl.ApplyRec(s, r); ok {
			results = append(results, slicesOfState(next))
		}
	}
	if len(results) < 7 {
		t.Fatalf("only %d records are applicable", len(results))
	}
	for _, h := range s.Held {
		found, ok := impl.HeldOf(s, h.Txn)
		if !ok {
			t.Fatalf("HeldOf %d fails", h.Txn)
		}
		results = append(results, slicesOfHeld(found))
	}
	for _, key := range []string{"b", "f", "g"} {
		txns, ok := impl.BlocksKey(s, key, lastTrue)
		if !ok || len(txns) != 1 {
			t.Fatalf("BlocksKey(%q) = %v, %v", key, txns, ok)
		}
		results = append(results, []heldSlice{sliceOf[int](txns)})
	}
	for n := range len(l) + 1 {
		next, did, ok := impl.StateOf(l[:n])
		if !ok {
			t.Fatalf("StateOf fails for %d records", n)
		}
		results = append(results, append(slicesOfState(next), sliceOf[bool](did)))
	}
	return results
}

func TestResultsOfStatesAreNewMemory(t *testing.T) {
	s, l := crowdedState(), crowdedRecs()
	results := append(resultsOfState(t, s, l), resultsOfState(t, s, l)...)
	wantNewResults(t, results, wholeOfState(s, l))
}

func TestResultsOfStatesOutliveTheirArguments(t *testing.T) {
	s, l := crowdedState(), crowdedRecs()
	results := resultsOfState(t, s, l)
	before := textsOfResults(results)
	for _, x := range wholeOfState(s, l) {
		x.spoil()
	}
	if now := textsOfResults(results); !slices.EqualFunc(now, before, slices.Equal) {
		t.Errorf("the results become %v with the arguments", now)
	}
}

// TestAppendingToOneSliceOfAStateChangesNoOther appends where a result might have room that another one uses.
func TestAppendingToOneSliceOfAStateChangesNoOther(t *testing.T) {
	s, l := crowdedState(), crowdedRecs()
	before := textsOf(wholeOfState(s, l))
	states := []impl.State{}
	for _, r := range l {
		next, _ := impl.ApplyRec(s, r)
		states = append(states, next)
	}
	whole, _, _ := impl.StateOf(l)
	for _, x := range append(states, whole) {
		now := textsOf(slicesOfState(x))
		_, _, _ = append(x.Cells, cell("spoilt"), cell("spoilt")), append(x.Held, heldBy(-9, -9, nil), heldBy(-9, -9, nil)), append(x.Told, toldNo(-9), toldNo(-9))
		for _, c := range x.Cells {
			_ = append(c.Vers, ver(-9, "spoilt"), ver(-9, "spoilt"))
		}
		for _, h := range x.Held {
			_, _ = append(h.Reads, "spoilt", "spoilt"), append(h.Writes, drop("spoilt"), drop("spoilt"))
		}
		if after := textsOf(slicesOfState(x)); !slices.Equal(after, now) {
			t.Errorf("the result becomes %v, before %v", after, now)
		}
	}
	if now := textsOf(wholeOfState(s, l)); !slices.Equal(now, before) {
		t.Errorf("the arguments become %v, before %v", now, before)
	}
}

// TestNothingStandsBehindAState looks for prepared transactions that were released, and for what stands behind the arguments.
func TestNothingStandsBehindAState(t *testing.T) {
	s, l := crowdedState(), crowdedRecs()
	for _, r := range l {
		next, _ := impl.ApplyRec(s, r)
		for _, h := range next.Held[len(next.Held):cap(next.Held)] {
			if !equalHeld(h, impl.Held{}) {
				t.Errorf("%v stands behind the prepared transactions", h)
			}
		}
		for _, o := range next.Told[len(next.Told):cap(next.Told)] {
			if o != (impl.Told{}) {
				t.Errorf("%v stands behind the outcomes", o)
			}
		}
	}
}

// TestARefusedRecChangesNoState has records that are refused only after a part of them could have been done.
func TestARefusedRecChangesNoState(t *testing.T) {
	s := crowdedState()
	before := textsOf(wholeOfState(s, nil))
	for _, r := range []impl.Rec{
		yes(kindDecide, 2, 8), yes(kindDone, 5, 11), prepare(2, 13, 0, []string{"a"}), prepare(3, 13, 0, []string{"a"}), prepare(6, 13, 0, []string{"b"}), prepare(6, 13, 0, nil, drop("a")),
		no(kindDone, 3), no(kindDecide, 4), yes(kindDecide, 6, 20), floorAt(12),
	} {
		wantNotApplied(t, s, r)
		if now := textsOf(wholeOfState(s, nil)); !slices.Equal(now, before) {
			t.Fatalf("%v changes the state to %v, before %v", r, now, before)
		}
	}
}

func TestStatesDoNotDependOnEarlierCalls(t *testing.T) {
	s, l := crowdedState(), crowdedRecs()
	before := textsOfResults(resultsOfState(t, s, l))
	for _, odd := range oddStates() {
		impl.GoodState(odd)
		impl.FitsState(odd, l[0].Reads, l[0].Writes)
		impl.ApplyRec(odd, l[0])
		impl.ApplyRec(odd, no(kindDecide, 1))
		impl.OutcomeOf(odd, 1)
		impl.HeldOf(odd, 1)
		impl.SettledTo(odd)
		impl.BlocksKey(odd, "a", 9)
		impl.SameState(odd, s)
	}
	if now := textsOfResults(resultsOfState(t, s, l)); !slices.EqualFunc(now, before, slices.Equal) {
		t.Errorf("the results are %v, before %v", now, before)
	}
}
