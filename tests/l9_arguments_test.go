package tests

import (
	"fmt"
	"slices"
	"testing"

	"loop.example/g00850/impl"
)

// oddGroups has valid and invalid groups, around the limits and far from them.
func oddGroups() []impl.Group {
	g := ledGroup()
	l := append(goodGroups(), badGroups()...)
	l = append(l, groupOf(1, -1, newReps(100000)...), withRep(g, 1, on(0, make([]impl.Entry, 100000)...)), withRep(g, 1, on(100000, longLog(100000, 1)...)))
	for _, x := range append(slices.Clone(oddNumbers), finalTerm-1, finalTerm, finalTerm+1) {
		l = append(l, led(g, x, 0), led(g, x, -1), led(g, 4, x), led(g, x, x), groupOf(x, -1, newReps(3)...), groupOf(x, 1, newReps(5)...))
		l = append(l, withRep(g, 0, on(x, logOf(1, 4)...)), withRep(g, 2, off(x)), withRep(g, 1, on(0, logOf(x)...)), withRep(g, 1, on(1, logOf(1, x)...)))
	}
	for _, r := range oddRecsOfGroups() {
		l = append(l, withRep(g, 0, on(0, impl.Entry{Term: 2, Rec: r})), withRep(g, 2, off(1, entry(1, 1), impl.Entry{Term: 2, Rec: r})))
	}
	return l
}

// oddRecsOfGroups has some valid records and many that are not.
func oddRecsOfGroups() []impl.Rec {
	l := append(goodRecs()[:20], badRecs()[:60]...)
	for _, r := range oddParts() {
		for _, r.Kind = range []int{kindPrepare, kindDecide, kindFloor} {
			r.Txn, r.Time = 1, 5
			l = append(l, r)
		}
	}
	return l
}

func TestGroupsAcceptAllArguments(t *testing.T) {
	for _, g := range oddGroups() {
		if !isReplicated(g) {
			wantGroupRefused(t, g)
			continue
		}
		wantGoodGroup(t, g, true)
		wantSafe(t, g, modelSafe(g))
		sure, ok := modelSureLog(g)
		wantSureLog(t, g, sure, ok)
		next, ok := modelAdvance(g)
		wantAdvance(t, g, next, ok)
	}
}

func TestReplicasAcceptAllArguments(t *testing.T) {
	for _, g := range oddGroups() {
		for _, r := range oddNumbers {
			next, ok := modelCrash(g, r)
			wantCrash(t, g, r, next, ok)
			next, ok = modelStart(g, r)
			wantStart(t, g, r, next, ok)
			next, ok = modelElect(g, r)
			wantElect(t, g, r, next, ok)
			next, ok = modelCopy(g, r)
			wantCopy(t, g, r, next, ok)
		}
	}
}

func TestNewGroupAcceptsAllArguments(t *testing.T) {
	for _, many := range append(slices.Clone(oddInts), oddNumbers...) {
		if many == 3 || many == 5 {
			wantNewGroup(t, many, groupOf(0, -1, newReps(many)...), true)
		} else {
			wantNewGroup(t, many, impl.Group{}, false)
		}
	}
}

func TestPutEntryAcceptsAllArguments(t *testing.T) {
	for _, g := range oddGroups() {
		for _, r := range oddRecsOfGroups() {
			next, ok := modelPutEntry(g, r)
			wantPutEntry(t, g, r, next, ok)
		}
	}
}

func TestPlayGroupAcceptsAllArguments(t *testing.T) {
	for _, g := range goodGroups() {
		for _, kind := range append(slices.Clone(oddNumbers), 7, 8, 9) {
			for _, r := range oddNumbers {
				l := groupActs(impl.GroupAct{Kind: kind, Rep: r, Rec: floorAt(3)})
				want, ok := modelPlayGroup(g, l)
				wantPlayGroup(t, g, l, want, ok)
			}
		}
	}
	for _, r := range oddRecsOfGroups() {
		for kind := range advancing + 2 {
			l := groupActs(impl.GroupAct{Kind: kind, Rep: 1, Rec: r})
			want, ok := modelPlayGroup(ledGroup(), l)
			wantPlayGroup(t, ledGroup(), l, want, ok)
		}
	}
	many := slices.Repeat(groupActs(doOn(electing, 1), put(floorAt(3)), doOn(copying, 0), doOn(advancing, 0)), mostGroupActs)
	for _, g := range oddGroups() {
		for _, n := range []int{0, 3, mostGroupActs + 1} {
			want, ok := modelPlayGroup(g, many[:n])
			wantPlayGroup(t, g, many[:n], want, ok)
		}
	}
	for _, g := range goodGroups() {
		want, ok := modelPlayGroup(g, many[:mostGroupActs])
		wantPlayGroup(t, g, many[:mostGroupActs], want, ok)
	}
	wantPlayGroup(t, ledGroup(), make([]impl.GroupAct, 1000000), impl.Group{}, false)
}

// heldReps leaves out the logs, which are held on their own, as are the slices of the records of heldEntries and heldActs.
type heldReps []impl.Replica

func (l heldReps) text() string {
	s := ""
	for i, r := range l {
		s += fmt.Sprint(i, r.Up, r.Sure, len(r.Log), " ")
	}
	return s
}

func (l heldReps) spoil() {
	l = l[:cap(l)]
	for i := range l {
		l[i] = impl.Replica{Up: !l[i].Up, Log: l[i].Log, Sure: -9}
	}
}

type heldEntries []impl.Entry

func (l heldEntries) text() string {
	s := ""
	for i, e := range l {
		s += fmt.Sprint(i, e.Term, numbersOf(e.Rec), " ")
	}
	return s
}

func (l heldEntries) spoil() {
	l = l[:cap(l)]
	for i := range l {
		l[i] = impl.Entry{Term: -9, Rec: impl.Rec{Kind: -9, Reads: l[i].Rec.Reads, Writes: l[i].Rec.Writes}}
	}
}

type heldActs []impl.GroupAct

func (l heldActs) text() string {
	s := ""
	for i, a := range l {
		s += fmt.Sprint(i, a.Kind, a.Rep, numbersOf(a.Rec), " ")
	}
	return s
}

func (l heldActs) spoil() {
	l = l[:cap(l)]
	for i := range l {
		l[i] = impl.GroupAct{Kind: -9, Rep: -9, Rec: impl.Rec{Kind: -9, Reads: l[i].Rec.Reads, Writes: l[i].Rec.Writes}}
	}
}

// numbersOf has all of a record but what its slices hold.
func numbersOf(r impl.Rec) []any {
	return []any{r.Kind, r.Txn, r.Time, r.Lead, r.Yes, len(r.Reads), len(r.Writes)}
}

func slicesOfRec(r impl.Rec) []heldSlice {
	return []heldSlice{sliceOf[string](r.Reads), sliceOf[impl.Write](r.Writes)}
}

func slicesOfLog(l []impl.Entry) []heldSlice {
	held := []heldSlice{heldEntries(l)}
	for _, e := range l {
		held = append(held, slicesOfRec(e.Rec)...)
	}
	return held
}

func slicesOfGroup(g impl.Group) []heldSlice {
	held := []heldSlice{heldReps(g.Reps)}
	for _, r := range g.Reps {
		held = append(held, slicesOfLog(r.Log)...)
	}
	return held
}

func slicesOfActs(l []impl.GroupAct) []heldSlice {
	held := []heldSlice{heldActs(l)}
	for _, a := range l {
		held = append(held, slicesOfRec(a.Rec)...)
	}
	return held
}

// wholeOfRec returns the slices of a record with all that is behind their lengths.
func wholeOfRec(r impl.Rec) []heldSlice {
	return []heldSlice{sliceOf[string](r.Reads[:cap(r.Reads)]), sliceOf[impl.Write](r.Writes[:cap(r.Writes)])}
}

// wholeOfGroup returns the slices of a group, and of actions on it, with all that is behind their lengths.
func wholeOfGroup(g impl.Group, l []impl.GroupAct) []heldSlice {
	reps, l := g.Reps[:cap(g.Reps)], l[:cap(l)]
	held := []heldSlice{heldReps(reps), heldActs(l)}
	for _, r := range reps {
		log := r.Log[:cap(r.Log)]
		held = append(held, heldEntries(log))
		for _, e := range log {
			held = append(held, wholeOfRec(e.Rec)...)
		}
	}
	for _, a := range l {
		held = append(held, wholeOfRec(a.Rec)...)
	}
	return held
}

// crowdedEntry has a record whose slices are parts of longer ones.
func crowdedEntry(term int) impl.Entry { return impl.Entry{Term: term, Rec: crowdedRec()} }

// crowdedGroup returns a group whose slices are parts of longer ones; everything behind them is valid, too, and would be noticed.
func crowdedGroup() impl.Group {
	first := []impl.Entry{crowdedEntry(1), entry(1, 2), crowdedEntry(3), entry(3, 4), crowdedEntry(3), entry(3, 6)}
	second := []impl.Entry{crowdedEntry(1), entry(1, 2), crowdedEntry(3), entry(3, 8)}
	reps := []impl.Replica{on(1, first[:4]...), on(0, second[:3]...), off(2, first[:2]...), on(1, second[:2]...), on(1, first[:5]...), off(0)}
	// Replicas 2 and 3 and those behind the length have the memory of other logs.
	return impl.Group{Reps: reps[:3], Term: 3, Lead: 0}
}

// crowdedGroupActs are some of the actions of a longer slice.
func crowdedGroupActs() []impl.GroupAct {
	return groupActs(put(crowdedRec()), doOn(copying, 1), doOn(advancing, 0), put(floorAt(9)), put(crowdedRec()), doOn(starting, 2), doOn(electing, 1), doOn(copying, 2), doOn(crashing, 0), doOn(crashing, 1), put(crowdedRec()))[:9]
}

func TestGroupsNeitherChangeNorReadBehindTheirArguments(t *testing.T) {
	g, l := crowdedGroup(), crowdedGroupActs()
	before := textsOf(wholeOfGroup(g, l))
	alone := cloneGroup(g)
	for range 2 {
		wantGoodGroup(t, g, true)
		wantSafe(t, g, true)
		wantSureLog(t, g, alone.Reps[0].Log[:1], true)
		for r := -1; r < 6; r++ {
			next, ok := modelCrash(alone, r)
			wantCrash(t, g, r, next, ok)
			next, ok = modelStart(alone, r)
			wantStart(t, g, r, next, ok)
			next, ok = modelElect(alone, r)
			wantElect(t, g, r, next, ok)
			next, ok = modelCopy(alone, r)
			wantCopy(t, g, r, next, ok)
		}
		next, ok := modelPutEntry(alone, cloneRec(crowdedRec()))
		wantPutEntry(t, g, l[0].Rec, next, ok)
		next, ok = modelAdvance(alone)
		wantAdvance(t, g, next, ok)
		for i := range len(l) + 1 {
			next, ok = modelPlayGroup(alone, l[:i])
			wantPlayGroup(t, g, l[:i], next, ok)
		}
		if now := textsOf(wholeOfGroup(g, l)); !slices.Equal(now, before) {
			t.Fatalf("the arguments become %v, before %v", now, before)
		}
	}
}

// groupResults collects the slices of each result that is given to it.
type groupResults struct {
	held [][]heldSlice
}

func (c *groupResults) add(t *testing.T, name string, g impl.Group, ok bool) {
	t.Helper()
	if !ok {
		t.Fatalf("%s fails", name)
	}
	c.held = append(c.held, slicesOfGroup(g))
}

// addReps takes the results of every replica for which there is one.
func (c *groupResults) addReps(g impl.Group, change func(impl.Group, int) (impl.Group, bool)) {
	for r := range g.Reps {
		if changed, ok := change(g, r); ok {
			c.held = append(c.held, slicesOfGroup(changed))
		}
	}
}

// resultsOfGroup returns the slices of the results of all functions for this group.
func resultsOfGroup(t *testing.T, g impl.Group, l []impl.GroupAct) [][]heldSlice {
	t.Helper()
	c := &groupResults{}
	made, ok := impl.NewGroup(5)
	c.add(t, "NewGroup", made, ok)
	full := withRep(g, 2, on(2, g.Reps[2].Log...))
	for _, x := range []impl.Group{g, full, led(g, 3, -1), led(full, 3, 2), groupOf(3, 1, g.Reps[0], g.Reps[0], g.Reps[0])} {
		for _, change := range []func(impl.Group, int) (impl.Group, bool){impl.CrashRep, impl.StartRep, impl.ElectRep, impl.CopyTo} {
			c.addReps(x, change)
		}
		if x.Lead != -1 {
			next, ok := impl.PutEntry(x, l[0].Rec)
			c.add(t, "PutEntry", next, ok)
			next, ok = impl.Advance(x)
			c.add(t, "Advance", next, ok)
			sure, ok := impl.SureLog(x)
			c.add(t, "SureLog", groupOf(0, 0, on(0, sure...)), ok)
		}
		for _, a := range [][]impl.GroupAct{nil, {}, groupActs(doOn(0, 0)), groupActs(l[0], l[0]), groupActs(l[0], doOn(copying, 0), doOn(copying, 1), l[0]), l} {
			played, ok := impl.PlayGroup(x, a)
			c.add(t, "PlayGroup", played, ok)
		}
	}
	if len(c.held) < 60 {
		t.Fatalf("only %d results", len(c.held))
	}
	return c.held
}

func textsOfResults(results [][]heldSlice) [][]string {
	var texts [][]string
	for _, l := range results {
		texts = append(texts, textsOf(l))
	}
	return texts
}

// wantNewResults overwrites one slice of one result after the other.
func wantNewResults(t *testing.T, results [][]heldSlice, arguments []heldSlice) {
	t.Helper()
	before, argumentsBefore := textsOfResults(results), textsOf(arguments)
	for i, held := range results {
		for j, x := range held {
			x.spoil()
			before[i][j] = x.text()
			if now := textsOf(held); !slices.Equal(now, before[i]) {
				t.Fatalf("changing slice %d of result %d changes it to %v", j, i, now)
			}
		}
		if now := textsOfResults(results); !slices.EqualFunc(now, before, slices.Equal) {
			t.Fatalf("changing result %d changes the results to %v", i, now)
		}
		if now := textsOf(arguments); !slices.Equal(now, argumentsBefore) {
			t.Fatalf("changing result %d changes the arguments to %v", i, now)
		}
	}
}

func TestResultsOfGroupsAreNewMemory(t *testing.T) {
	g, l := crowdedGroup(), crowdedGroupActs()
	results := append(resultsOfGroup(t, g, l), resultsOfGroup(t, g, l)...)
	wantNewResults(t, results, wholeOfGroup(g, l))
}

func TestResultsOfGroupsOutliveTheirArguments(t *testing.T) {
	g, l := crowdedGroup(), crowdedGroupActs()
	results := resultsOfGroup(t, g, l)
	before := textsOfResults(results)
	for _, x := range wholeOfGroup(g, l) {
		x.spoil()
	}
	if now := textsOfResults(results); !slices.EqualFunc(now, before, slices.Equal) {
		t.Errorf("the results become %v with the arguments", now)
	}
}

// TestAppendingToOneSliceOfAGroupChangesNoOther appends where a result might have room that another one uses.
func TestAppendingToOneSliceOfAGroupChangesNoOther(t *testing.T) {
	g, l := crowdedGroup(), crowdedGroupActs()
	before := textsOf(wholeOfGroup(g, l))
	sure, _ := impl.SureLog(g)
	copied, _ := impl.CopyTo(g, 1)
	played, _ := impl.PlayGroup(g, l)
	for _, x := range []impl.Group{copied, played, groupOf(0, 0, on(0, sure...))} {
		now := textsOf(slicesOfGroup(x))
		_ = append(x.Reps, on(0, entry(9, 9)), on(0))
		for _, r := range x.Reps {
			_ = append(r.Log, entry(9, 9), entry(9, 9))
			for _, e := range r.Log {
				_ = append(e.Rec.Reads, "spoilt", "spoilt")
				_ = append(e.Rec.Writes, store("spoilt", "spoilt"), drop("spoilt"))
			}
		}
		if after := textsOf(slicesOfGroup(x)); !slices.Equal(after, now) {
			t.Errorf("the result becomes %v, before %v", after, now)
		}
	}
	if now := textsOf(wholeOfGroup(g, l)); !slices.Equal(now, before) {
		t.Errorf("the arguments become %v, before %v", now, before)
	}
}

// TestNoEntryStandsBehindTheSureOnes looks for entries that are not committed.
func TestNoEntryStandsBehindTheSureOnes(t *testing.T) {
	for sure := range 5 {
		g := withRep(crowdedGroup(), 0, on(sure, logOf(1, 1, 3, 3)...))
		l, _ := impl.SureLog(g)
		for _, e := range l[len(l):cap(l)] {
			if !equalEntry(e, impl.Entry{}) {
				t.Errorf("%v stands behind the %d sure entries", e, sure)
			}
		}
	}
}

func TestGroupsDoNotDependOnEarlierCalls(t *testing.T) {
	g, l := crowdedGroup(), crowdedGroupActs()
	before := textsOfResults(resultsOfGroup(t, g, l))
	for _, odd := range oddGroups() {
		impl.NewGroup(len(odd.Reps))
		impl.CrashRep(odd, 0)
		impl.StartRep(odd, 2)
		impl.ElectRep(odd, 1)
		impl.PutEntry(odd, l[0].Rec)
		impl.CopyTo(odd, 1)
		impl.Advance(odd)
		impl.SureLog(odd)
		impl.IsSafe(odd)
		impl.PlayGroup(odd, l)
	}
	if now := textsOfResults(resultsOfGroup(t, g, l)); !slices.EqualFunc(now, before, slices.Equal) {
		t.Errorf("the results are %v, before %v", now, before)
	}
}
