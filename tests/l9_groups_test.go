package tests

import (
	"math"
	"math/rand/v2"
	"slices"
	"testing"

	"loop.example/g00850/impl"
)

// The limits are written out, so that a changed constant of the program is noticed.
const (
	finalTerm     = 200
	mostEntries   = 60
	mostGroupActs = 200
	crashing      = 1
	starting      = 2
	electing      = 3
	putting       = 4
	copying       = 5
	advancing     = 6
)

// entry has a floor as its record.
func entry(term int, time int) impl.Entry { return impl.Entry{Term: term, Rec: floorAt(time)} }

// logOf has one entry for each term; those of two logs at the same place are the same if their terms are.
func logOf(terms ...int) []impl.Entry {
	var l []impl.Entry
	for i, term := range terms {
		l = append(l, entry(term, i+1))
	}
	return l
}

// longLog has n entries of one term.
func longLog(n int, term int) []impl.Entry { return logOf(slices.Repeat([]int{term}, n)...) }

// on returns a replica that is up, off one that is down.
func on(sure int, l ...impl.Entry) impl.Replica { return impl.Replica{Up: true, Log: l, Sure: sure} }

func off(sure int, l ...impl.Entry) impl.Replica { return impl.Replica{Log: l, Sure: sure} }

func groupOf(term int, lead int, reps ...impl.Replica) impl.Group {
	return impl.Group{Reps: reps, Term: term, Lead: lead}
}

// newReps are up and have no entries.
func newReps(n int) []impl.Replica { return slices.Repeat([]impl.Replica{on(0)}, n) }

func withRep(g impl.Group, i int, r impl.Replica) impl.Group {
	g = cloneGroup(g)
	g.Reps[i] = r
	return g
}

// led returns the group in another term, with another leader.
func led(g impl.Group, term int, lead int) impl.Group {
	g = cloneGroup(g)
	g.Term, g.Lead = term, lead
	return g
}

func doOn(kind int, r int) impl.GroupAct { return impl.GroupAct{Kind: kind, Rep: r} }

func put(r impl.Rec) impl.GroupAct { return impl.GroupAct{Kind: putting, Rec: r} }

func groupActs(l ...impl.GroupAct) []impl.GroupAct { return l }

func cloneLog(l []impl.Entry) []impl.Entry {
	l = slices.Clone(l)
	for i := range l {
		l[i].Rec = cloneRec(l[i].Rec)
	}
	return l
}

func cloneGroup(g impl.Group) impl.Group {
	g.Reps = slices.Clone(g.Reps)
	for i := range g.Reps {
		g.Reps[i].Log = cloneLog(g.Reps[i].Log)
	}
	return g
}

func equalEntry(a impl.Entry, b impl.Entry) bool { return a.Term == b.Term && equalRec(a.Rec, b.Rec) }

func equalLog(a []impl.Entry, b []impl.Entry) bool { return slices.EqualFunc(a, b, equalEntry) }

func equalReplica(a impl.Replica, b impl.Replica) bool {
	return a.Up == b.Up && a.Sure == b.Sure && equalLog(a.Log, b.Log)
}

func equalGroup(a impl.Group, b impl.Group) bool {
	return a.Term == b.Term && a.Lead == b.Lead && slices.EqualFunc(a.Reps, b.Reps, equalReplica)
}

func isReplica(r impl.Replica, term int) bool {
	terms := make([]int, len(r.Log))
	for i, e := range r.Log {
		terms[i] = e.Term
		if !isWithin(e.Term, 1, term) || !isRec(e.Rec) {
			return false
		}
	}
	return len(r.Log) <= mostEntries && isWithin(r.Sure, 0, len(r.Log)) && slices.IsSorted(terms)
}

func isReplicated(g impl.Group) bool {
	many := len(g.Reps)
	if many != 3 && many != 5 || !isWithin(g.Term, 0, finalTerm) || !isWithin(g.Lead, -1, many-1) {
		return false
	}
	if g.Lead != -1 && (g.Term == 0 || !g.Reps[g.Lead].Up) {
		return false
	}
	return !slices.ContainsFunc(g.Reps, func(r impl.Replica) bool { return !isReplica(r, g.Term) })
}

// hasUp tells whether a replica of a valid group is there and up.
func hasUp(g impl.Group, r int) bool {
	return isReplicated(g) && isWithin(r, 0, len(g.Reps)-1) && g.Reps[r].Up
}

func modelCrash(g impl.Group, r int) (impl.Group, bool) {
	if !hasUp(g, r) {
		return impl.Group{}, false
	}
	g = cloneGroup(g)
	g.Reps[r].Up = false
	if g.Lead == r {
		g.Lead = -1
	}
	return g, true
}

func modelStart(g impl.Group, r int) (impl.Group, bool) {
	if !isReplicated(g) || !isWithin(r, 0, len(g.Reps)-1) || g.Reps[r].Up {
		return impl.Group{}, false
	}
	g = cloneGroup(g)
	g.Reps[r].Up = true
	return g, true
}

// recency orders logs by their last terms and then by their lengths.
func recency(l []impl.Entry) int {
	if len(l) == 0 {
		return 0
	}
	return 1000*l[len(l)-1].Term + len(l)
}

func modelElect(g impl.Group, r int) (impl.Group, bool) {
	if !hasUp(g, r) || g.Term == finalTerm {
		return impl.Group{}, false
	}
	votes := 0
	for _, x := range g.Reps {
		if x.Up && recency(x.Log) <= recency(g.Reps[r].Log) {
			votes++
		}
	}
	if votes <= len(g.Reps)/2 {
		return impl.Group{}, false
	}
	return led(g, g.Term+1, r), true
}

func modelPutEntry(g impl.Group, r impl.Rec) (impl.Group, bool) {
	if !isReplicated(g) || g.Lead == -1 || len(g.Reps[g.Lead].Log) >= mostEntries || !isRec(r) {
		return impl.Group{}, false
	}
	g = cloneGroup(g)
	g.Reps[g.Lead].Log = append(g.Reps[g.Lead].Log, impl.Entry{Term: g.Term, Rec: cloneRec(r)})
	return g, true
}

func modelCopy(g impl.Group, r int) (impl.Group, bool) {
	if !hasUp(g, r) || g.Lead == -1 || g.Lead == r {
		return impl.Group{}, false
	}
	g = cloneGroup(g)
	from := g.Reps[g.Lead]
	g.Reps[r].Log = cloneLog(from.Log)
	g.Reps[r].Sure = min(len(from.Log), max(from.Sure, g.Reps[r].Sure))
	return g, true
}

// startsWith tells whether the log begins with these entries.
func startsWith(log []impl.Entry, first []impl.Entry) bool {
	return len(first) <= len(log) && equalLog(log[:len(first)], first)
}

func modelAdvance(g impl.Group) (impl.Group, bool) {
	if !isReplicated(g) || g.Lead == -1 {
		return impl.Group{}, false
	}
	g = cloneGroup(g)
	l := &g.Reps[g.Lead]
	for n := l.Sure + 1; n <= len(l.Log); n++ {
		have := 0
		for _, x := range g.Reps {
			if startsWith(x.Log, l.Log[:n]) {
				have++
			}
		}
		if have > len(g.Reps)/2 && l.Log[n-1].Term == g.Term {
			l.Sure = n
		}
	}
	return g, true
}

func modelSureLog(g impl.Group) ([]impl.Entry, bool) {
	if !isReplicated(g) || g.Lead == -1 {
		return nil, false
	}
	return g.Reps[g.Lead].Log[:g.Reps[g.Lead].Sure], true
}

func modelSafe(g impl.Group) bool {
	if !isReplicated(g) {
		return false
	}
	longest := []impl.Entry{}
	for _, r := range g.Reps {
		if r.Sure > len(longest) {
			longest = r.Log[:r.Sure]
		}
	}
	if g.Lead != -1 && !startsWith(g.Reps[g.Lead].Log, longest) {
		return false
	}
	return !slices.ContainsFunc(g.Reps, func(r impl.Replica) bool { return !startsWith(longest, r.Log[:r.Sure]) })
}

func modelGroupAct(g impl.Group, a impl.GroupAct) (impl.Group, bool) {
	switch a.Kind {
	case crashing:
		return modelCrash(g, a.Rep)
	case starting:
		return modelStart(g, a.Rep)
	case electing:
		return modelElect(g, a.Rep)
	case putting:
		return modelPutEntry(g, a.Rec)
	case copying:
		return modelCopy(g, a.Rep)
	case advancing:
		return modelAdvance(g)
	}
	return impl.Group{}, false
}

func modelPlayGroup(g impl.Group, l []impl.GroupAct) (impl.Group, bool) {
	if !isReplicated(g) || len(l) > mostGroupActs {
		return impl.Group{}, false
	}
	for _, a := range l {
		if next, ok := modelGroupAct(g, a); ok {
			g = next
		}
	}
	return g, true
}

func wantGroup(t *testing.T, got impl.Group, gotOK bool, want impl.Group, ok bool, name string, arguments ...any) {
	t.Helper()
	if !equalGroup(got, want) || gotOK != ok {
		t.Errorf("%s of %s = %s, %v; want %s, %v", name, short(arguments), short(got), gotOK, short(want), ok)
	}
}

func wantGoodGroup(t *testing.T, g impl.Group, good bool) {
	t.Helper()
	if impl.GoodGroup(g) != good {
		t.Errorf("GoodGroup(%s) is %v", short(g), !good)
	}
}

func wantNewGroup(t *testing.T, many int, want impl.Group, ok bool) {
	t.Helper()
	got, gotOK := impl.NewGroup(many)
	wantGroup(t, got, gotOK, want, ok, "NewGroup", many)
}

func wantCrash(t *testing.T, g impl.Group, r int, want impl.Group, ok bool) {
	t.Helper()
	got, gotOK := impl.CrashRep(g, r)
	wantGroup(t, got, gotOK, want, ok, "CrashRep", r, g)
}

func wantStart(t *testing.T, g impl.Group, r int, want impl.Group, ok bool) {
	t.Helper()
	got, gotOK := impl.StartRep(g, r)
	wantGroup(t, got, gotOK, want, ok, "StartRep", r, g)
}

func wantElect(t *testing.T, g impl.Group, r int, want impl.Group, ok bool) {
	t.Helper()
	got, gotOK := impl.ElectRep(g, r)
	wantGroup(t, got, gotOK, want, ok, "ElectRep", r, g)
}

// wantElected checks that a replica is elected or, if it is not, that the call fails.
func wantElected(t *testing.T, g impl.Group, r int, ok bool) {
	t.Helper()
	if ok {
		wantElect(t, g, r, led(g, g.Term+1, r), true)
	} else {
		wantElect(t, g, r, impl.Group{}, false)
	}
}

func wantPutEntry(t *testing.T, g impl.Group, r impl.Rec, want impl.Group, ok bool) {
	t.Helper()
	got, gotOK := impl.PutEntry(g, r)
	wantGroup(t, got, gotOK, want, ok, "PutEntry", r, g)
}

func wantCopy(t *testing.T, g impl.Group, r int, want impl.Group, ok bool) {
	t.Helper()
	got, gotOK := impl.CopyTo(g, r)
	wantGroup(t, got, gotOK, want, ok, "CopyTo", r, g)
}

func wantAdvance(t *testing.T, g impl.Group, want impl.Group, ok bool) {
	t.Helper()
	got, gotOK := impl.Advance(g)
	wantGroup(t, got, gotOK, want, ok, "Advance", g)
}

// wantSure checks that Advance raises the leader's Sure to n and changes nothing else.
func wantSure(t *testing.T, g impl.Group, n int) {
	t.Helper()
	want := cloneGroup(g)
	want.Reps[g.Lead].Sure = n
	wantAdvance(t, g, want, true)
}

func wantSureLog(t *testing.T, g impl.Group, want []impl.Entry, ok bool) {
	t.Helper()
	if got, gotOK := impl.SureLog(g); !equalLog(got, want) || gotOK != ok {
		t.Errorf("SureLog(%s) = %s, %v; want %s, %v", short(g), short(got), gotOK, short(want), ok)
	}
}

func wantSafe(t *testing.T, g impl.Group, safe bool) {
	t.Helper()
	if impl.IsSafe(g) != safe {
		t.Errorf("IsSafe(%s) is %v", short(g), !safe)
	}
}

func wantPlayGroup(t *testing.T, g impl.Group, l []impl.GroupAct, want impl.Group, ok bool) {
	t.Helper()
	got, gotOK := impl.PlayGroup(g, l)
	wantGroup(t, got, gotOK, want, ok, "PlayGroup", l, g)
}

// wantGroupRefused checks that no function takes this group, with arguments that are right for many others.
func wantGroupRefused(t *testing.T, g impl.Group) {
	t.Helper()
	wantGoodGroup(t, g, false)
	for r := range 3 {
		wantCrash(t, g, r, impl.Group{}, false)
		wantStart(t, g, r, impl.Group{}, false)
		wantElect(t, g, r, impl.Group{}, false)
		wantCopy(t, g, r, impl.Group{}, false)
	}
	wantPutEntry(t, g, floorAt(1), impl.Group{}, false)
	wantAdvance(t, g, impl.Group{}, false)
	wantSureLog(t, g, nil, false)
	wantSafe(t, g, false)
	for _, l := range [][]impl.GroupAct{nil, groupActs(doOn(crashing, 0)), groupActs(doOn(electing, 1)), groupActs(put(floorAt(1))), groupActs(doOn(0, 0))} {
		wantPlayGroup(t, g, l, impl.Group{}, false)
	}
}

// mustPlayGroup fails the test at once, so that the rest of it is about a group that is there.
func mustPlayGroup(t *testing.T, g impl.Group, l ...impl.GroupAct) impl.Group {
	t.Helper()
	played, ok := impl.PlayGroup(g, l)
	if !ok {
		t.Fatalf("PlayGroup(%s, %v) fails", short(g), l)
	}
	return played
}

// ledGroup is led by replica 0; replica 1 has another log, and replica 2, which is down, has a shorter one.
func ledGroup() impl.Group {
	return groupOf(4, 0, on(2, logOf(1, 1, 2, 4)...), on(1, logOf(1, 1, 3)...), off(0, logOf(1)...))
}

// goodGroups meets the limits exactly, and has groups with all kinds of logs.
func goodGroups() []impl.Group {
	full := longLog(mostEntries, finalTerm)
	rest := longLog(mostEntries-1, 1)
	parts := []impl.Entry{{Term: 1, Rec: prepare(3, 20, 1, []string{"a"}, store("b", "7"), drop("c"))}, {Term: 1, Rec: no(kindDecide, 2)}, {Term: 2, Rec: yes(kindDone, 3, 9)}}
	return []impl.Group{
		groupOf(0, -1, newReps(3)...), groupOf(0, -1, newReps(5)...), groupOf(1, 2, newReps(3)...), groupOf(finalTerm, 4, newReps(5)...), groupOf(finalTerm-1, -1, newReps(3)...),
		groupOf(0, -1, off(0), off(0), off(0)), groupOf(7, 1, off(0), on(0), off(0)), ledGroup(), led(ledGroup(), 4, -1), led(ledGroup(), 9, 1),
		groupOf(finalTerm, 0, on(mostEntries, full...), on(0, full...), on(mostEntries-1, full...)), groupOf(finalTerm, 1, off(0, full...), on(mostEntries-1, rest...), on(0)),
		groupOf(2, 0, on(2, parts...), on(3, parts...), on(0, parts[:2]...), off(1, parts[:1]...), on(0)),
		groupOf(5, 3, on(1, logOf(1, 2)...), off(2, logOf(2, 2)...), on(0, logOf(3)...), on(1, logOf(5)...), on(0)),
		groupOf(5, 1, on(2, logOf(1, 2)...), on(0, logOf(1, 3)...), on(2, logOf(1, 2, 4)...)),
	}
}

// badGroups breaks each rule of a group, by one and by more.
func badGroups() []impl.Group {
	g := ledGroup()
	l := []impl.Group{
		{}, {Lead: -1}, {Term: 1, Lead: -1}, groupOf(1, 0, newReps(2)...), groupOf(1, 0, newReps(4)...), groupOf(1, 0, newReps(6)...), groupOf(0, -1, newReps(1000)...),
		led(g, -1, 0), led(g, -1, -1), led(g, finalTerm+1, 0), led(g, finalTerm+1, -1), led(g, math.MinInt, 0), led(g, math.MaxInt, 0), led(g, 3, 0), led(g, 0, -1), led(g, 0, 0),
		led(g, 4, -2), led(g, 4, 2), led(g, 4, 3), led(g, 4, math.MinInt), led(g, 4, math.MaxInt), led(g, 4, 1<<32), groupOf(0, 0, newReps(3)...), groupOf(0, 4, newReps(5)...),
		groupOf(1, 0, off(0), on(0), on(0)), groupOf(1, 5, newReps(5)...), groupOf(0, -1, on(0), on(0), on(0, logOf(1)...)), groupOf(0, -1, on(0), on(0), on(0, logOf(0)...)),
	}
	for _, r := range []impl.Replica{
		on(-1), on(1), off(-1), off(1), on(-1, logOf(1, 2)...), on(3, logOf(1, 2)...), off(3, logOf(1, 2)...), on(math.MinInt, logOf(1)...), on(math.MaxInt, logOf(1)...),
		on(0, longLog(mostEntries+1, 1)...), off(0, longLog(mostEntries+1, 1)...), on(mostEntries+1, longLog(mostEntries+1, 1)...), on(0, longLog(1000, 1)...),
		on(0, logOf(0)...), on(0, logOf(5)...), on(0, logOf(1, 5)...), on(0, logOf(0, 1)...), on(0, logOf(-1)...), off(0, logOf(2, 1)...), on(0, logOf(1, 3, 2)...), on(0, logOf(4, 1)...),
		on(0, logOf(finalTerm+1)...), on(0, logOf(math.MinInt)...), on(0, logOf(math.MaxInt)...), on(0, entry(1, 0)), on(0, entry(1, 1), entry(2, lastTrue+1)), off(0, impl.Entry{Term: 1}),
		on(0, impl.Entry{}), on(1, impl.Entry{Term: 1, Rec: prepare(1, 1, 0, nil)}), on(0, entry(1, 1), impl.Entry{Term: 2, Rec: impl.Rec{Kind: kindDone, Txn: 1, Time: 5}}),
	} {
		l = append(l, withRep(g, 1, r), withRep(g, 2, r), withRep(groupOf(4, -1, newReps(5)...), 4, r))
	}
	return l
}

func TestNewGroup(t *testing.T) {
	wantNewGroup(t, 3, groupOf(0, -1, on(0), on(0), on(0)), true)
	wantNewGroup(t, 5, groupOf(0, -1, on(0), on(0), on(0), on(0), on(0)), true)
	for _, many := range []int{math.MinInt, -5, -3, -1, 0, 1, 2, 4, 6, 7, 8, 9, 256 + 3, 1<<32 + 3, 1 << 40, math.MaxInt} {
		wantNewGroup(t, many, impl.Group{}, false)
	}
}

func TestGoodGroup(t *testing.T) {
	for _, g := range goodGroups() {
		wantGoodGroup(t, g, true)
	}
	for _, g := range badGroups() {
		wantGroupRefused(t, g)
	}
}

func TestGoodGroupChecksTheNumberOfReplicas(t *testing.T) {
	for many := range 9 {
		for _, g := range []impl.Group{groupOf(0, -1, newReps(many)...), groupOf(1, -1, newReps(many)...), groupOf(1, many-1, newReps(many)...)} {
			if many == 3 || many == 5 {
				wantGoodGroup(t, g, true)
			} else {
				wantGroupRefused(t, g)
			}
		}
	}
}

func TestGoodGroupChecksTheTermAndTheLeader(t *testing.T) {
	for _, many := range []int{3, 5} {
		for _, term := range []int{0, 1, 2, finalTerm - 1, finalTerm} {
			wantGoodGroup(t, groupOf(term, -1, newReps(many)...), true)
			for lead := range many {
				g := groupOf(term, lead, newReps(many)...)
				wantGoodGroup(t, g, term > 0)
				wantGoodGroup(t, withRep(g, lead, off(0)), false)
				wantGoodGroup(t, withRep(g, (lead+1)%many, off(0)), term > 0)
			}
			for _, lead := range []int{math.MinInt, -3, -2, many, many + 1, 256, 1 << 32, math.MaxInt} {
				wantGroupRefused(t, groupOf(term, lead, newReps(many)...))
			}
		}
		for _, term := range []int{math.MinInt, -2, -1, finalTerm + 1, finalTerm + 2, 256, 1 << 32, math.MaxInt} {
			wantGroupRefused(t, groupOf(term, -1, newReps(many)...))
			wantGroupRefused(t, groupOf(term, 0, newReps(many)...))
		}
	}
}

func TestGoodGroupChecksHowManyEntriesAreSure(t *testing.T) {
	for _, many := range []int{3, 5} {
		for at := range many {
			for _, n := range []int{0, 1, 2, mostEntries - 1, mostEntries} {
				g := groupOf(7, -1, newReps(many)...)
				for sure := range n + 1 {
					wantGoodGroup(t, withRep(g, at, on(sure, longLog(n, 7)...)), true)
					wantGoodGroup(t, withRep(g, at, off(sure, longLog(n, 7)...)), true)
				}
				for _, sure := range []int{math.MinInt, -2, -1, n + 1, n + 2, 256, 1 << 32, math.MaxInt} {
					wantGoodGroup(t, withRep(g, at, on(sure, longLog(n, 7)...)), false)
					wantGoodGroup(t, withRep(g, at, off(sure, longLog(n, 7)...)), false)
				}
			}
		}
	}
}

func TestGoodGroupChecksTheLengthOfEveryLog(t *testing.T) {
	for _, many := range []int{3, 5} {
		for at := range many {
			g := groupOf(7, 1, newReps(many)...)
			for _, n := range []int{0, 1, mostEntries - 1, mostEntries, mostEntries + 1, mostEntries + 2, 256, 1000} {
				wantGoodGroup(t, withRep(g, at, on(0, longLog(n, 7)...)), n <= mostEntries)
				wantGoodGroup(t, withRep(g, at, on(min(n, mostEntries), longLog(n, 1)...)), n <= mostEntries)
			}
		}
	}
}

func TestGoodGroupChecksTheTermsOfEntries(t *testing.T) {
	for _, x := range []struct {
		terms []int
		good  bool
	}{
		{[]int{1}, true}, {[]int{2}, true}, {[]int{8}, true}, {[]int{9}, true}, {[]int{1, 1, 1}, true}, {[]int{1, 2, 9}, true}, {[]int{9, 9}, true}, {[]int{1, 9, 9}, true}, {[]int{3, 3, 5, 5}, true},
		{[]int{0}, false}, {[]int{10}, false}, {[]int{-1}, false}, {[]int{0, 1}, false}, {[]int{1, 0}, false}, {[]int{1, 10}, false}, {[]int{10, 9}, false}, {[]int{10, 10}, false},
		{[]int{2, 1}, false}, {[]int{9, 8}, false}, {[]int{9, 1, 9}, false}, {[]int{1, 3, 2}, false}, {[]int{1, 3, 2, 3}, false}, {[]int{5, 4, 4}, false}, {[]int{5, 5, 4}, false},
		{[]int{1, 1 << 32}, false}, {[]int{1<<32 + 1}, false}, {[]int{math.MinInt}, false}, {[]int{1, math.MaxInt}, false},
	} {
		for at := range 3 {
			for _, r := range []impl.Replica{on(0, logOf(x.terms...)...), off(len(x.terms), logOf(x.terms...)...)} {
				wantGoodGroup(t, withRep(groupOf(9, -1, newReps(3)...), at, r), x.good)
				wantGoodGroup(t, withRep(groupOf(9, (at+1)%3, newReps(3)...), at, r), x.good)
			}
		}
	}
	for place := range mostEntries {
		l := longLog(mostEntries, 7)
		for _, term := range []int{0, 6, 7, 8, 9, 10} {
			l[place].Term = term
			good := term == 7 || term == 6 && place == 0 || (term == 8 || term == 9) && place == mostEntries-1
			wantGoodGroup(t, groupOf(9, -1, on(0), on(0), on(0, l...)), good)
		}
	}
}

func TestGoodGroupChecksEveryRecord(t *testing.T) {
	g := groupOf(2, 0, on(0, logOf(1, 1, 2)...), on(0, logOf(1, 1, 2)...), off(0, logOf(1, 1, 2)...))
	for _, r := range append(goodRecs(), badRecs()...) {
		for at := range 3 {
			for place := range 3 {
				changed := cloneGroup(g)
				changed.Reps[at].Log[place].Rec = r
				wantGoodGroup(t, changed, isRec(r))
			}
		}
	}
	for place := range mostEntries {
		l := longLog(mostEntries, 1)
		l[place].Rec = floorAt(0)
		wantGoodGroup(t, groupOf(2, 0, on(0), on(0, l...), on(0)), false)
	}
}

func TestGroupOfTheExamples(t *testing.T) {
	g, _ := impl.NewGroup(3)
	g = mustPlayGroup(t, g, doOn(electing, 1), put(floorAt(1)), put(floorAt(2)), put(floorAt(3)), doOn(copying, 0), doOn(advancing, 0))
	wantGroup(t, g, true, groupOf(1, 1, on(0, logOf(1, 1, 1)...), on(3, logOf(1, 1, 1)...), on(0)), true, "PlayGroup")
	wantSureLog(t, g, logOf(1, 1, 1), true)
	g = mustPlayGroup(t, g, doOn(crashing, 1))
	wantElected(t, g, 0, true)
	wantElected(t, g, 2, false)
	wantElected(t, g, 1, false)
	wantSureLog(t, g, nil, false)
	// Only the entry of the current term commits that of an earlier one.
	g = groupOf(2, 0, on(0, logOf(1)...), on(0, logOf(1)...), on(0))
	wantSure(t, g, 0)
	g = groupOf(2, 0, on(0, logOf(1, 2)...), on(0, logOf(1, 2)...), on(0))
	wantSure(t, g, 2)
}

func TestCrashRep(t *testing.T) {
	for _, g := range goodGroups() {
		for r := range g.Reps {
			want := cloneGroup(g)
			want.Reps[r].Up = false
			if r == g.Lead {
				want.Lead = -1
			}
			if g.Reps[r].Up {
				wantCrash(t, g, r, want, true)
			} else {
				wantCrash(t, g, r, impl.Group{}, false)
			}
		}
		for _, r := range []int{math.MinInt, -2, -1, len(g.Reps), len(g.Reps) + 1, 256, 1 << 32, math.MaxInt} {
			wantCrash(t, g, r, impl.Group{}, false)
		}
	}
}

func TestCrashRepOfTheLeader(t *testing.T) {
	g := groupOf(4, 1, on(2, logOf(1, 4)...), on(1, logOf(1, 4)...), off(0))
	wantCrash(t, g, 1, groupOf(4, -1, on(2, logOf(1, 4)...), off(1, logOf(1, 4)...), off(0)), true)
	wantCrash(t, g, 0, groupOf(4, 1, off(2, logOf(1, 4)...), on(1, logOf(1, 4)...), off(0)), true)
	wantCrash(t, g, 2, impl.Group{}, false)
	wantCrash(t, led(g, 4, -1), 1, groupOf(4, -1, on(2, logOf(1, 4)...), off(1, logOf(1, 4)...), off(0)), true)
}

func TestStartRep(t *testing.T) {
	for _, g := range goodGroups() {
		for r := range g.Reps {
			want := cloneGroup(g)
			want.Reps[r].Up = true
			if g.Reps[r].Up {
				wantStart(t, g, r, impl.Group{}, false)
			} else {
				wantStart(t, g, r, want, true)
			}
		}
		for _, r := range []int{math.MinInt, -2, -1, len(g.Reps), len(g.Reps) + 1, 256, 1 << 32, math.MaxInt} {
			wantStart(t, g, r, impl.Group{}, false)
		}
	}
	g := groupOf(4, 1, off(1, logOf(1, 4)...), on(1, logOf(1, 4)...), off(0))
	wantStart(t, g, 0, groupOf(4, 1, on(1, logOf(1, 4)...), on(1, logOf(1, 4)...), off(0)), true)
}

func TestARestartedLeaderDoesNotLead(t *testing.T) {
	g := groupOf(1, 0, newReps(3)...)
	g = mustPlayGroup(t, g, put(floorAt(1)), doOn(crashing, 0), put(floorAt(2)), doOn(starting, 0), put(floorAt(3)), doOn(copying, 1), doOn(advancing, 0))
	wantGroup(t, g, true, groupOf(1, -1, on(0, logOf(1)...), on(0), on(0)), true, "PlayGroup")
}

func TestElectRepChecksTheTerm(t *testing.T) {
	for _, many := range []int{3, 5} {
		for r := range many {
			for _, term := range []int{0, 1, 7, finalTerm - 2, finalTerm - 1} {
				wantElect(t, groupOf(term, -1, newReps(many)...), r, groupOf(term+1, r, newReps(many)...), true)
			}
			wantElect(t, groupOf(finalTerm, -1, newReps(many)...), r, impl.Group{}, false)
			wantElect(t, groupOf(finalTerm, r, newReps(many)...), r, impl.Group{}, false)
		}
		for _, r := range []int{math.MinInt, -2, -1, many, many + 1, 256, 1 << 32, math.MaxInt} {
			wantElect(t, groupOf(1, -1, newReps(many)...), r, impl.Group{}, false)
			wantElect(t, groupOf(1, 0, newReps(many)...), r, impl.Group{}, false)
		}
	}
}

func TestElectRepReplacesALeader(t *testing.T) {
	for lead := -1; lead < 3; lead++ {
		g := groupOf(6, lead, on(1, logOf(1, 5)...), on(0, logOf(1, 5)...), on(2, logOf(1, 5)...))
		for r := range 3 {
			wantElect(t, g, r, led(g, 7, r), true)
		}
	}
}

func TestElectRepCountsTheReplicasThatAreUp(t *testing.T) {
	for _, many := range []int{3, 5} {
		for set := range 1 << many {
			g := groupOf(3, -1, newReps(many)...)
			ups := 0
			for i := range many {
				g.Reps[i].Up = set>>i&1 == 1
				ups += set >> i & 1
			}
			for r := range many {
				wantElected(t, g, r, g.Reps[r].Up && (many == 3 && ups >= 2 || many == 5 && ups >= 3))
			}
		}
	}
}

// logsByRecency has the least recent logs first; those of one row are equally recent.
func logsByRecency() [][][]impl.Entry {
	return [][][]impl.Entry{
		{nil, {}},
		{logOf(1), {entry(1, 77)}},
		{logOf(1, 1)},
		{longLog(mostEntries, 1)},
		{logOf(2), {entry(2, 5)}},
		{logOf(1, 2), logOf(2, 2)},
		{logOf(1, 1, 2), logOf(1, 2, 2), logOf(2, 2, 2)},
		{longLog(mostEntries, 2), append(longLog(mostEntries-1, 1), entry(2, 9))},
		{logOf(3), {entry(3, 9)}},
		{logOf(1, 3), logOf(2, 3), logOf(3, 3)},
	}
}

func TestElectRepComparesLogs(t *testing.T) {
	for i, l := range logsByRecency() {
		for j, m := range logsByRecency() {
			for _, a := range l {
				for _, b := range m {
					// With one more replica that votes for neither, everything depends on the other log.
					wantElected(t, groupOf(3, -1, on(0, a...), on(0, b...), off(0)), 0, i >= j)
					wantElected(t, groupOf(3, 2, on(0, a...), on(0, b...), on(0, logOf(3, 3, 3)...)), 0, i >= j)
					wantElected(t, groupOf(3, 0, on(len(a), a...), on(len(b), b...), on(len(b), b...)), 0, i >= j)
					wantElected(t, groupOf(3, -1, on(0, a...), on(0, b...), on(0)), 0, true)
					five := groupOf(3, -1, on(0), on(0, b...), on(0, a...), off(0, b...), off(0))
					wantElected(t, five, 2, i >= j)
					wantElected(t, withRep(five, 4, on(0, b...)), 2, i >= j)
					wantElected(t, withRep(five, 4, on(0)), 2, true)
				}
			}
		}
	}
}

func TestElectRepNeedsMoreThanHalfOfAllReplicas(t *testing.T) {
	short, long := logOf(1), logOf(1, 1)
	for _, x := range []struct {
		reps []impl.Replica
		ok   bool
	}{
		{[]impl.Replica{on(0, short...), on(0, long...), on(0, long...)}, false}, {[]impl.Replica{on(0, short...), on(0, short...), on(0, long...)}, true},
		{[]impl.Replica{on(0, short...), off(0, short...), off(0, short...)}, false}, {[]impl.Replica{on(0, short...), off(0, long...), off(0)}, false},
		{[]impl.Replica{on(0, short...), off(0), on(0, long...)}, false}, {[]impl.Replica{on(0, short...), off(0, long...), on(0)}, true}, {[]impl.Replica{off(0, short...), on(0), on(0)}, false},
		{[]impl.Replica{on(0, short...), on(0), on(0, long...), on(0, long...), on(0, long...)}, false}, {[]impl.Replica{on(0, short...), on(0), on(0, short...), on(0, long...), on(0, long...)}, true},
		{[]impl.Replica{on(0, short...), on(0), off(0), off(0), off(0)}, false}, {[]impl.Replica{on(0, short...), on(0), off(0), on(0), off(0)}, true},
		{[]impl.Replica{on(0, short...), on(0), off(0), off(0), on(0, long...)}, false}, {[]impl.Replica{on(0, short...), on(0), on(0), off(0, long...), off(0, long...)}, true},
		{[]impl.Replica{on(0, short...), off(0, short...), off(0), on(0, long...), on(0)}, false}, {[]impl.Replica{off(0, long...), on(0), on(0), on(0), on(0)}, false},
	} {
		wantElected(t, groupOf(8, -1, x.reps...), 0, x.ok)
	}
}

func TestPutEntry(t *testing.T) {
	g := ledGroup()
	rec := prepare(3, 20, 1, []string{"a"}, store("b", "7"), drop("c"))
	for _, term := range []int{4, 5, 9, finalTerm} {
		later := led(g, term, 0)
		wantPutEntry(t, later, rec, withRep(later, 0, on(2, append(logOf(1, 1, 2, 4), impl.Entry{Term: term, Rec: rec})...)), true)
	}
	second := led(g, 6, 1)
	wantPutEntry(t, second, floorAt(4), withRep(second, 1, on(1, logOf(1, 1, 3, 6)...)), true)
	wantPutEntry(t, led(g, 6, -1), rec, impl.Group{}, false)
	wantPutEntry(t, groupOf(0, -1, newReps(5)...), rec, impl.Group{}, false)
	for lead := range 5 {
		first := groupOf(1, lead, newReps(5)...)
		wantPutEntry(t, first, floorAt(1), withRep(first, lead, on(0, logOf(1)...)), true)
	}
}

func TestPutEntryChecksTheRecord(t *testing.T) {
	g := groupOf(2, 1, on(0), on(1, logOf(1)...), on(0))
	for _, r := range goodRecs() {
		wantPutEntry(t, g, r, withRep(g, 1, on(1, entry(1, 1), impl.Entry{Term: 2, Rec: r})), true)
	}
	for _, r := range badRecs() {
		wantPutEntry(t, g, r, impl.Group{}, false)
	}
}

func TestPutEntryChecksTheLengthOfTheLog(t *testing.T) {
	for _, n := range []int{0, 1, mostEntries - 2, mostEntries - 1, mostEntries} {
		for _, other := range []int{0, mostEntries} {
			g := groupOf(3, 1, on(0, longLog(other, 3)...), on(0, longLog(n, 3)...), on(0, longLog(other, 1)...))
			if n < mostEntries {
				wantPutEntry(t, g, floorAt(n+1), withRep(g, 1, on(0, longLog(n+1, 3)...)), true)
			} else {
				wantPutEntry(t, g, floorAt(n+1), impl.Group{}, false)
			}
		}
	}
}

func TestCopyTo(t *testing.T) {
	log := logOf(1, 1, 2, 4)
	for _, x := range []struct {
		lead int
		to   impl.Replica
		sure int
	}{
		{0, on(0), 0}, {2, on(0), 2}, {4, on(0), 4}, {2, on(0, log...), 2}, {2, on(1, log...), 2}, {2, on(2, log...), 2}, {2, on(3, log...), 3}, {0, on(4, log...), 4},
		{1, on(0, logOf(1, 1, 2)...), 1}, {1, on(3, logOf(1, 1, 2)...), 3}, {1, on(0, logOf(3, 3, 3)...), 1}, {1, on(3, logOf(3, 3, 3)...), 3}, {4, on(1, logOf(2)...), 4},
		{1, on(0, logOf(1, 1, 2, 4, 4)...), 1}, {1, on(4, logOf(1, 1, 2, 4, 4)...), 4}, {1, on(5, logOf(1, 1, 2, 4, 4)...), 4}, {4, on(5, logOf(1, 1, 2, 4, 4)...), 4},
		{0, on(mostEntries, longLog(mostEntries, 4)...), 4}, {0, on(0, longLog(mostEntries, 4)...), 0},
	} {
		g := groupOf(4, 0, on(x.lead, log...), x.to, off(1, logOf(1)...))
		wantCopy(t, g, 1, withRep(g, 1, on(x.sure, log...)), true)
	}
	empty := groupOf(4, 2, on(3, log...), on(1, log...), on(0))
	wantCopy(t, empty, 0, withRep(empty, 0, on(0)), true)
	wantCopy(t, empty, 1, withRep(empty, 1, on(0)), true)
	full := groupOf(4, 2, on(1, log...), off(1, log...), on(9, longLog(mostEntries, 4)...))
	wantCopy(t, full, 0, withRep(full, 0, on(9, longLog(mostEntries, 4)...)), true)
}

func TestCopyToChecksTheReplica(t *testing.T) {
	for _, many := range []int{3, 5} {
		for lead := range many {
			g := groupOf(4, lead, newReps(many)...)
			g.Reps[lead] = on(1, logOf(1, 4)...)
			for _, r := range []int{math.MinInt, -2, -1, lead, many, many + 1, 256, 1 << 32, math.MaxInt} {
				wantCopy(t, g, r, impl.Group{}, false)
			}
			for r := range many {
				if r == lead {
					continue
				}
				wantCopy(t, g, r, withRep(g, r, on(1, logOf(1, 4)...)), true)
				wantCopy(t, withRep(g, r, off(0)), r, impl.Group{}, false)
				wantCopy(t, led(g, 4, -1), r, impl.Group{}, false)
			}
			wantCopy(t, led(g, 4, -1), lead, impl.Group{}, false)
		}
	}
}

func TestAdvance(t *testing.T) {
	log := logOf(1, 2, 4, 4)
	for _, x := range []struct {
		name string
		lead impl.Replica
		one  impl.Replica
		two  impl.Replica
		sure int
	}{
		{"no entries", on(0), on(0), on(0), 0},
		{"nothing to commit", on(4, log...), on(0, log...), on(0, log...), 4},
		{"nobody else has it", on(0, log...), on(0), on(0), 0},
		{"all have it", on(0, log...), on(0, log...), on(0, log...), 4},
		{"one other has it", on(0, log...), on(0, log...), on(0), 4},
		{"the last has it", on(0, log...), on(0), on(0, log...), 4},
		{"one that is down has it", on(0, log...), on(0), off(0, log...), 4},
		{"all are down", on(0, log...), off(0, log...), off(0, log...), 4},
		{"some of it", on(0, log...), on(0, log[:3]...), on(0), 3},
		{"two have some of it", on(0, log...), on(0, log[:3]...), on(0, log[:2]...), 3},
		{"only entries of earlier terms", on(0, log...), on(0, log[:2]...), on(0, log[:2]...), 0},
		{"all have the earlier ones only", on(0, log[:2]...), on(0, log[:2]...), on(0, log[:2]...), 0},
		{"one has the first entry only", on(0, log...), on(0, log[:1]...), on(0), 0},
		{"sure of an earlier one", on(1, log...), on(0, log[:2]...), on(0, log[:2]...), 1},
		{"sure of the earlier ones", on(2, log...), on(0, log[:3]...), on(0), 3},
		{"sure of more than a majority has", on(3, log...), on(0, log[:2]...), on(0, log[:1]...), 3},
		{"sure of what a majority has", on(3, log...), on(0, log[:3]...), on(0, log[:3]...), 3},
		{"the others are sure", on(0, log[:2]...), on(2, log[:2]...), on(2, log[:2]...), 0},
		{"longer logs", on(0, log[:3]...), on(4, log...), on(0), 3},
		{"a longer log that differs", on(0, log[:3]...), on(0, append(slices.Clone(log[:3]), entry(4, 99))...), on(0), 3},
		{"another first entry", on(0, log...), on(0, logOf(2, 2, 4, 4)...), on(0, logOf(2, 2, 4, 4)...), 0},
		{"another entry between", on(0, log...), on(0, logOf(1, 3, 4, 4)...), on(0, logOf(1, 1, 4, 4)...), 0},
		{"another last entry", on(0, log...), on(0, append(slices.Clone(log[:3]), entry(4, 99))...), on(0), 3},
		{"the same entries elsewhere", on(0, log...), on(0, append(logOf(1), log...)...), on(0, log[1:]...), 0},
	} {
		g := groupOf(4, 0, x.lead, x.one, x.two)
		want := cloneGroup(g)
		want.Reps[0].Sure = x.sure
		got, ok := impl.Advance(g)
		wantGroup(t, got, ok, want, true, "Advance", x.name)
		wantAdvance(t, led(g, 4, -1), impl.Group{}, false)
		// In a later term all of these entries are of earlier ones.
		wantSure(t, led(g, 5, 0), x.lead.Sure)
		got, ok = impl.Advance(groupOf(4, 2, x.one, x.two, x.lead))
		wantGroup(t, got, ok, groupOf(4, 2, want.Reps[1], want.Reps[2], want.Reps[0]), true, "Advance", x.name)
	}
	wantAdvance(t, groupOf(0, -1, newReps(3)...), impl.Group{}, false)
	wantAdvance(t, groupOf(4, -1, off(0, log...), off(0, log...), off(0, log...)), impl.Group{}, false)
}

func TestAdvanceNeedsMoreThanHalfOfAllReplicas(t *testing.T) {
	log := logOf(3, 3, 3, 3, 3, 3)
	for _, many := range []int{3, 5} {
		for set := range 1 << many {
			for lead := range many {
				g := groupOf(3, lead, newReps(many)...)
				have := 0
				for i := range many {
					g.Reps[i] = impl.Replica{Up: i == lead || i%2 == 0, Log: slices.Clone(log[:2])}
					if i == lead || set>>i&1 == 1 {
						g.Reps[i].Log = slices.Clone(log)
						have++
					}
				}
				if many == 3 && have >= 2 || many == 5 && have >= 3 {
					wantSure(t, g, 6)
				} else {
					wantSure(t, g, 2)
				}
			}
		}
	}
}

func TestAdvanceOfFiveTakesTheThirdLongestCopy(t *testing.T) {
	log := longLog(mostEntries, 3)
	r := rand.New(rand.NewPCG(91, 91))
	for range 300 {
		lengths := []int{mostEntries, r.IntN(mostEntries + 1), r.IntN(mostEntries + 1), r.IntN(mostEntries + 1), r.IntN(mostEntries + 1)}
		g := groupOf(3, 0)
		for i, n := range lengths {
			g.Reps = append(g.Reps, impl.Replica{Up: i == 0 || r.IntN(2) == 0, Log: log[:n]})
		}
		slices.Sort(lengths)
		for _, sure := range []int{0, lengths[2] - 1, lengths[2], lengths[2] + 1, mostEntries} {
			if isWithin(sure, 0, mostEntries) {
				wantSure(t, withRep(g, 0, on(sure, log...)), max(sure, lengths[2]))
			}
		}
	}
}

// twins are pairs of valid records that differ in one field, or in as few as valid records can.
func twins() [][2]impl.Rec {
	r := prepare(3, 20, 1, []string{"a"}, store("b", "1"))
	return [][2]impl.Rec{
		{r, prepare(4, 20, 1, []string{"a"}, store("b", "1"))}, {r, prepare(3, 21, 1, []string{"a"}, store("b", "1"))}, {r, prepare(3, 20, 2, []string{"a"}, store("b", "1"))},
		{r, prepare(3, 20, 1, []string{"c"}, store("b", "1"))}, {r, prepare(3, 20, 1, nil, store("b", "1"))}, {r, prepare(3, 20, 1, []string{"a", "b"}, store("b", "1"))},
		{r, prepare(3, 20, 1, []string{"a"}, store("c", "1"))}, {r, prepare(3, 20, 1, []string{"a"}, store("b", "2"))}, {r, prepare(3, 20, 1, []string{"a"}, store("b", ""))},
		{r, prepare(3, 20, 1, []string{"a"})}, {r, prepare(3, 20, 1, []string{"a"}, store("b", "1"), drop("c"))},
		{prepare(3, 20, 1, nil, store("b", "")), prepare(3, 20, 1, nil, drop("b"))}, {floorAt(5), floorAt(6)},
		{yes(kindDecide, 1, 5), yes(kindDone, 1, 5)}, {no(kindDecide, 1), no(kindDone, 1)}, {yes(kindDecide, 1, 5), yes(kindDecide, 2, 5)},
		{yes(kindDone, 1, 5), yes(kindDone, 1, 6)}, {yes(kindDecide, 1, 5), no(kindDecide, 1)},
	}
}

// twinEntries are pairs of entries that differ in their records, or in their terms only.
func twinEntries() [][2]impl.Entry {
	l := [][2]impl.Entry{{entry(1, 1), entry(2, 1)}, {entry(2, 9), entry(1, 9)}}
	for _, x := range twins() {
		l = append(l, [2]impl.Entry{{Term: 2, Rec: x[0]}, {Term: 2, Rec: x[1]}}, [2]impl.Entry{{Term: 2, Rec: x[1]}, {Term: 2, Rec: x[0]}})
	}
	return l
}

func TestAdvanceComparesWholeEntries(t *testing.T) {
	for _, x := range twinEntries() {
		a, b, last := x[0], x[1], entry(2, 7)
		wantSure(t, groupOf(2, 0, on(0, a, last), on(0, b, last), on(0, b, last)), 0)
		wantSure(t, groupOf(2, 0, on(0, a, last), on(0, b, last), on(0, a, last)), 2)
		wantSure(t, groupOf(2, 1, on(0, b, last), on(0, a, last), off(0, cloneLog([]impl.Entry{a, last})...)), 2)
		if a.Term == 2 && b.Term == 2 {
			wantSure(t, groupOf(2, 0, on(0, last, a), on(0, last, b), on(0, last)), 1)
			wantSure(t, groupOf(2, 0, on(0, last, a), on(0, last, b), on(0, last, a, b)), 2)
		}
	}
}

func TestSureLog(t *testing.T) {
	for _, g := range goodGroups() {
		for lead := range g.Reps {
			if !g.Reps[lead].Up || g.Term == 0 {
				continue
			}
			x := led(g, g.Term, lead)
			for sure := range len(g.Reps[lead].Log) + 1 {
				x.Reps[lead].Sure = sure
				wantSureLog(t, x, g.Reps[lead].Log[:sure], true)
			}
		}
		wantSureLog(t, led(g, g.Term, -1), nil, false)
	}
	wantSureLog(t, groupOf(1, 0, on(0, logOf(1)...), on(1, logOf(1)...), on(1, logOf(1)...)), nil, true)
	wantSureLog(t, groupOf(1, 0, newReps(3)...), nil, true)
}

func TestIsSafe(t *testing.T) {
	log, other := logOf(1, 2, 4), logOf(1, 3, 4)
	for _, x := range []struct {
		g    impl.Group
		safe bool
	}{
		{groupOf(0, -1, newReps(3)...), true}, {groupOf(4, -1, on(3, log...), on(3, log...), on(3, log...)), true}, {groupOf(4, 0, on(3, log...), on(1, log[:1]...), off(0)), true},
		{groupOf(4, -1, on(3, log...), on(1, other...), on(0)), true}, {groupOf(4, -1, on(3, log...), on(2, other...), on(0)), false}, {groupOf(4, -1, on(1, log...), on(3, other...), on(0)), true},
		{groupOf(4, -1, on(0, log...), on(3, other...), on(0)), true}, {groupOf(4, -1, on(2, log...), on(3, other...), on(0)), false}, {groupOf(4, -1, on(3, log...), on(3, other...), on(0)), false},
		{groupOf(4, -1, on(0), on(2, log...), on(2, other...)), false}, {groupOf(4, -1, on(2, log...), on(0), on(2, other...)), false}, {groupOf(4, -1, off(2, log...), on(0), off(2, other...)), false},
		{groupOf(4, 0, on(0, log...), on(3, other...), on(0)), false}, {groupOf(4, 0, on(0, log...), on(1, other...), on(0)), true}, {groupOf(4, 0, on(0, log...), on(0, other...), on(2, other...)), false},
		{groupOf(4, 0, on(0, log...), off(2, other...), on(0)), false}, {groupOf(4, 0, on(0, log[:2]...), on(3, log...), on(0)), false}, {groupOf(4, 0, on(0, log[:2]...), on(2, log...), on(0)), true},
		{groupOf(4, 0, on(0), on(1, log...), on(0)), false}, {groupOf(4, 2, on(0), on(1, log...), on(0, log...)), true}, {groupOf(4, 2, on(1, log...), on(0), on(0)), false},
		{groupOf(4, -1, on(0), on(1, log...), on(0)), true}, {groupOf(4, 1, on(0), on(1, log...), on(0)), true}, {groupOf(4, 1, on(2, log...), on(0, log...), off(3, log...)), true},
		{groupOf(4, -1, on(0), on(0), on(1, log...), on(0), on(2, other...)), true}, {groupOf(4, -1, on(0), on(0), on(2, log...), on(0), on(2, other...)), false},
		{groupOf(4, 0, on(0, log...), on(0), on(0), on(0), on(3, log...)), true}, {groupOf(4, 0, on(0, log[:2]...), on(0), on(0), on(0), on(3, log...)), false},
		{groupOf(4, 0, on(mostEntries, longLog(mostEntries, 4)...), on(mostEntries, longLog(mostEntries, 4)...), on(1, longLog(1, 4)...)), true},
		{groupOf(4, 0, on(mostEntries, longLog(mostEntries, 4)...), on(mostEntries, append(longLog(mostEntries-1, 4), entry(4, 99))...), on(0)), false},
	} {
		wantGoodGroup(t, x.g, true)
		wantSafe(t, x.g, x.safe)
	}
	// A group that is not valid is not safe, even if its entries agree.
	for _, g := range badGroups() {
		wantSafe(t, g, false)
	}
}

func TestIsSafeComparesWholeEntries(t *testing.T) {
	for _, x := range twinEntries() {
		a, b, last := x[0], x[1], entry(2, 7)
		for _, l := range [][2][]impl.Entry{{{a}, {b}}, {{a, last}, {b, last}}} {
			n := len(l[0])
			wantSafe(t, groupOf(2, -1, on(n, l[0]...), on(n, l[1]...), on(0)), false)
			wantSafe(t, groupOf(2, -1, on(0), on(1, l[0]...), off(1, l[1]...)), false)
			wantSafe(t, groupOf(2, -1, on(0, l[0]...), on(n, l[1]...), on(0)), true)
			wantSafe(t, groupOf(2, 0, on(0, l[0]...), on(n, l[1]...), on(0)), false)
			wantSafe(t, groupOf(2, 0, on(0, l[0]...), on(0, l[1]...), on(n, l[0]...)), true)
			wantSafe(t, groupOf(2, -1, on(n, l[0]...), on(0, l[1]...), on(n, cloneLog(l[0])...)), true)
		}
	}
}

func TestPlayGroupOfEveryKind(t *testing.T) {
	log := logOf(1, 1, 2, 4)
	g := groupOf(4, 0, on(2, log...), on(1, logOf(1, 1, 3)...), off(0, log...))
	for _, x := range []struct {
		act  impl.GroupAct
		want impl.Group
	}{
		{doOn(crashing, 0), led(withRep(g, 0, off(2, log...)), 4, -1)}, {doOn(crashing, 1), withRep(g, 1, off(1, logOf(1, 1, 3)...))}, {doOn(crashing, 2), g}, {doOn(crashing, 3), g}, {doOn(crashing, -1), g},
		{doOn(starting, 2), withRep(g, 2, on(0, log...))}, {doOn(starting, 0), g}, {doOn(starting, 1), g}, {doOn(starting, 3), g}, {doOn(starting, -1), g},
		{doOn(electing, 0), led(g, 5, 0)}, {doOn(electing, 1), g}, {doOn(electing, 2), g}, {doOn(electing, 3), g}, {doOn(electing, -1), g},
		{put(floorAt(5)), withRep(g, 0, on(2, logOf(1, 1, 2, 4, 4)...))}, {impl.GroupAct{Kind: putting, Rep: 1, Rec: floorAt(5)}, withRep(g, 0, on(2, logOf(1, 1, 2, 4, 4)...))},
		{put(impl.Rec{}), g}, {put(floorAt(0)), g}, {impl.GroupAct{Kind: putting, Rep: 9, Rec: no(kindFloor, 1)}, g},
		{doOn(copying, 1), withRep(g, 1, on(2, log...))}, {doOn(copying, 0), g}, {doOn(copying, 2), g}, {doOn(copying, 3), g}, {doOn(copying, -1), g},
		{doOn(advancing, 0), withRep(g, 0, on(4, log...))}, {doOn(advancing, 9), withRep(g, 0, on(4, log...))}, {impl.GroupAct{Kind: advancing, Rep: -9, Rec: floorAt(1)}, withRep(g, 0, on(4, log...))},
		{impl.GroupAct{Kind: crashing, Rep: 1, Rec: floorAt(1)}, withRep(g, 1, off(1, logOf(1, 1, 3)...))}, {impl.GroupAct{Kind: copying, Rep: 1, Rec: impl.Rec{Kind: 99}}, withRep(g, 1, on(2, log...))},
		{doOn(0, 1), g}, {doOn(7, 1), g}, {doOn(-1, 1), g}, {doOn(9, 1), g}, {doOn(256+crashing, 1), g}, {doOn(1<<32+copying, 1), g}, {doOn(math.MinInt, 1), g}, {doOn(math.MaxInt, 1), g},
		{impl.GroupAct{Kind: 0, Rep: 1, Rec: floorAt(1)}, g}, {impl.GroupAct{Kind: 7, Rep: 1, Rec: floorAt(1)}, g},
	} {
		wantPlayGroup(t, g, groupActs(x.act), x.want, true)
		refused := groupActs(doOn(0, 0), doOn(crashing, 2), doOn(electing, 1), put(impl.Rec{}), doOn(copying, 2), doOn(starting, 1), doOn(7, 0))
		wantPlayGroup(t, g, slices.Concat(refused, groupActs(x.act, refused[0], refused[6])), x.want, true)
	}
	idle := led(g, 4, -1)
	for _, a := range groupActs(put(floorAt(5)), doOn(copying, 1), doOn(advancing, 0), doOn(electing, 9)) {
		wantPlayGroup(t, idle, groupActs(a), idle, true)
	}
}

func TestPlayGroupPerformsInOrder(t *testing.T) {
	g := groupOf(0, -1, newReps(5)...)
	l := groupActs(
		doOn(electing, 0), put(floorAt(1)), doOn(crashing, 4), doOn(copying, 1), put(floorAt(2)), doOn(copying, 2), doOn(advancing, 0), doOn(copying, 3), doOn(crashing, 0),
		doOn(starting, 4), doOn(electing, 2), put(floorAt(3)), doOn(copying, 4), doOn(copying, 1), doOn(advancing, 0), doOn(copying, 1),
	)
	want := g
	for i, a := range l {
		wantPlayGroup(t, g, l[:i], want, true)
		next, ok := modelGroupAct(want, a)
		if !ok {
			t.Fatalf("action %d is refused", i)
		}
		want = next
	}
	wantPlayGroup(t, g, l, want, true)
	log := logOf(1, 1, 2)
	wantGroup(t, want, true, groupOf(2, 2, off(1, log[:2]...), on(3, log...), on(3, log...), on(1, log[:2]...), on(0, log...)), true, "the actions")
}

func TestPlayGroupChecksTheNumberOfActions(t *testing.T) {
	g := ledGroup()
	wantPlayGroup(t, g, nil, g, true)
	wantPlayGroup(t, g, groupActs(), g, true)
	for _, n := range []int{1, 2, mostGroupActs - 1, mostGroupActs} {
		wantPlayGroup(t, g, make([]impl.GroupAct, n), g, true)
		wantPlayGroup(t, groupOf(0, -1, newReps(3)...), slices.Repeat(groupActs(doOn(electing, 2)), n), groupOf(n, 2, newReps(3)...), true)
	}
	for _, n := range []int{mostGroupActs + 1, mostGroupActs + 2, 1000} {
		wantPlayGroup(t, g, make([]impl.GroupAct, n), impl.Group{}, false)
		wantPlayGroup(t, g, slices.Repeat(groupActs(doOn(electing, 0)), n), impl.Group{}, false)
	}
}

func TestPlayGroupGoesOnAtTheLimits(t *testing.T) {
	g := groupOf(finalTerm-1, 0, newReps(3)...)
	l := slices.Repeat(groupActs(put(floorAt(9))), mostEntries+5)
	l = slices.Concat(groupActs(doOn(electing, 1), doOn(electing, 2)), l, groupActs(doOn(copying, 0), doOn(advancing, 0), doOn(electing, 2), doOn(crashing, 2)))
	log := slices.Repeat([]impl.Entry{entry(finalTerm, 9)}, mostEntries)
	wantPlayGroup(t, g, l, groupOf(finalTerm, 1, on(0, log...), on(mostEntries, log...), off(0)), true)
}

// TestAnEntryOfAnEarlierTermMayBeLost lets a majority have an entry of term 1, which a later leader without it replaces.
func TestAnEntryOfAnEarlierTermMayBeLost(t *testing.T) {
	g, _ := impl.NewGroup(3)
	g = mustPlayGroup(t, g, doOn(electing, 0), put(floorAt(1)), doOn(crashing, 0), doOn(electing, 1), put(floorAt(2)), doOn(crashing, 1))
	g = mustPlayGroup(t, g, doOn(starting, 0), doOn(electing, 0), doOn(copying, 2), doOn(advancing, 0))
	wantGroup(t, g, true, groupOf(3, 0, on(0, entry(1, 1)), off(0, entry(2, 2)), on(0, entry(1, 1))), true, "PlayGroup")
	lost := mustPlayGroup(t, g, doOn(crashing, 0), doOn(starting, 1), doOn(electing, 1), doOn(copying, 2), put(floorAt(3)), doOn(copying, 2), doOn(advancing, 0))
	wantGroup(t, lost, true, groupOf(4, 1, off(0, entry(1, 1)), on(2, entry(2, 2), entry(4, 3)), on(0, entry(2, 2), entry(4, 3))), true, "PlayGroup")
	wantSafe(t, lost, true)
	// Together with an entry of the term of its leader it is committed, and the other one cannot lead any more.
	kept := mustPlayGroup(t, g, put(floorAt(3)), doOn(copying, 2), doOn(advancing, 0), doOn(crashing, 0), doOn(starting, 1), doOn(electing, 1))
	wantGroup(t, kept, true, groupOf(3, -1, off(2, entry(1, 1), entry(3, 3)), on(0, entry(2, 2)), on(0, entry(1, 1), entry(3, 3))), true, "PlayGroup")
	wantElected(t, kept, 2, true)
}

func TestAnEntryOfAnEarlierTermMayBeLostByFive(t *testing.T) {
	g, _ := impl.NewGroup(5)
	g = mustPlayGroup(t, g, doOn(electing, 0), put(floorAt(1)), doOn(copying, 1), doOn(crashing, 0), doOn(electing, 4), put(floorAt(2)), doOn(crashing, 4))
	g = mustPlayGroup(t, g, doOn(starting, 0), doOn(electing, 0), doOn(copying, 2), doOn(advancing, 0))
	wantGroup(t, g, true, groupOf(3, 0, on(0, entry(1, 1)), on(0, entry(1, 1)), on(0, entry(1, 1)), on(0), off(0, entry(2, 2))), true, "PlayGroup")
	lost := mustPlayGroup(t, g, doOn(crashing, 0), doOn(starting, 4), doOn(electing, 4))
	wantGroup(t, lost, true, groupOf(4, 4, off(0, entry(1, 1)), on(0, entry(1, 1)), on(0, entry(1, 1)), on(0), on(0, entry(2, 2))), true, "PlayGroup")
	kept := mustPlayGroup(t, g, put(floorAt(3)), doOn(copying, 1), doOn(copying, 2), doOn(advancing, 0), doOn(crashing, 0), doOn(starting, 4))
	wantElected(t, kept, 4, false)
	wantElected(t, kept, 3, false)
	wantElected(t, kept, 1, true)
}

// randomGroup is a valid group, mostly one that no group of NewGroup becomes; its logs have much in common.
func randomGroup(r *rand.Rand) impl.Group {
	many := 3 + 2*r.IntN(2)
	g := impl.Group{Term: []int{0, 1, 2, 3, 5, finalTerm - 2, finalTerm}[r.IntN(7)], Lead: r.IntN(many+1) - 1}
	base := randomLog(r, nil, g.Term, []int{2, 5, mostEntries}[r.IntN(3)])
	for i := range many {
		l := cloneLog(base[:r.IntN(len(base)+1)])
		if r.IntN(2) == 0 {
			l = cloneLog(base)
		}
		if r.IntN(4) == 0 {
			l = randomLog(r, l, g.Term, 4)
		}
		g.Reps = append(g.Reps, impl.Replica{Up: i == g.Lead || r.IntN(3) > 0, Log: l, Sure: r.IntN(len(l) + 1)})
		if r.IntN(2) == 0 {
			g.Reps[i].Sure = min(len(l), r.IntN(3))
		}
	}
	if g.Term == 0 {
		g.Lead = -1
	}
	return g
}

// randomLog appends some entries whose terms do not decrease.
func randomLog(r *rand.Rand, l []impl.Entry, term int, most int) []impl.Entry {
	low := 1
	if len(l) > 0 {
		low = l[len(l)-1].Term
	}
	for range r.IntN(most + 1) {
		if low > term || len(l) == mostEntries {
			break
		}
		low = min(term, low+r.IntN(2)*r.IntN(3))
		if r.IntN(4) == 0 {
			low = term
		}
		rec := floorAt(1 + r.IntN(3))
		if r.IntN(3) == 0 {
			rec = randomRec(r)
		}
		l = append(l, impl.Entry{Term: low, Rec: rec})
	}
	return l
}

func randomGroupAct(r *rand.Rand, g impl.Group) impl.GroupAct {
	a := impl.GroupAct{Kind: r.IntN(8), Rep: r.IntN(len(g.Reps)+2) - 1, Rec: floorAt(1 + r.IntN(3))}
	switch r.IntN(6) {
	case 0:
		a.Rec = randomRec(r)
	case 1:
		a.Rec = badRecsOfGroups[r.IntN(len(badRecsOfGroups))]
	}
	return a
}

var badRecsOfGroups = []impl.Rec{{}, floorAt(0), prepare(1, 1, 0, nil), yes(kindDecide, 1, 0), {Kind: kindFloor, Time: 5, Lead: 1}}

func TestGroupsAgreeWithTheModel(t *testing.T) {
	r := rand.New(rand.NewPCG(92, 92))
	for range 1500 {
		g := randomGroup(r)
		start, l := g, groupActs()
		for range 1 + r.IntN(20) {
			wantGoodGroup(t, g, true)
			wantSafe(t, g, modelSafe(g))
			sure, ok := modelSureLog(g)
			wantSureLog(t, g, sure, ok)
			a := randomGroupAct(r, g)
			next, ok := modelGroupAct(g, a)
			switch a.Kind {
			case crashing:
				wantCrash(t, g, a.Rep, next, ok)
			case starting:
				wantStart(t, g, a.Rep, next, ok)
			case electing:
				wantElect(t, g, a.Rep, next, ok)
			case putting:
				wantPutEntry(t, g, a.Rec, next, ok)
			case copying:
				wantCopy(t, g, a.Rep, next, ok)
			case advancing:
				wantAdvance(t, g, next, ok)
			}
			if ok {
				g = next
			}
			l = append(l, a)
		}
		wantPlayGroup(t, start, l, g, true)
	}
}

// A logBook keeps what the promise is about: every entry that has ever been committed, and how many each replica was sure of last.
type logBook struct {
	committed []impl.Entry
	sure      []int
	leaders   int
	term      int
}

func (b *logBook) check(t *testing.T, g impl.Group) {
	t.Helper()
	for i, r := range g.Reps {
		if r.Sure < b.sure[i] {
			t.Fatalf("replica %d is sure of %d entries and then of %d", i, b.sure[i], r.Sure)
		}
		b.sure[i] = r.Sure
		known := r.Log[:r.Sure]
		if !startsWith(b.committed, known) && !startsWith(known, b.committed) {
			t.Fatalf("replica %d has %v, but %v is committed", i, known, b.committed)
		}
		if r.Sure > len(b.committed) {
			b.committed = cloneLog(known)
		}
	}
	if g.Lead != -1 && !startsWith(g.Reps[g.Lead].Log, b.committed) {
		t.Fatalf("the leader %d of term %d has %v, but %v is committed", g.Lead, g.Term, g.Reps[g.Lead].Log, b.committed)
	}
	if g.Term > b.term {
		b.leaders++
	}
	b.term = g.Term
}

// failingGroupAct is any action; the greater calm is, the fewer crashes and elections there are.
func failingGroupAct(r *rand.Rand, many int, calm int, time int) impl.GroupAct {
	which := r.IntN(many)
	switch r.IntN(4 + calm) {
	case 0:
		return doOn(crashing, which)
	case 1:
		return doOn(starting, which)
	case 2, 3:
		return doOn(electing, which)
	}
	return groupActs(put(floorAt(time)), doOn(copying, which), doOn(copying, which), doOn(advancing, 0))[r.IntN(4)]
}

// TestCommittedEntriesStay does anything in any order; every entry has a time of its own.
func TestCommittedEntriesStay(t *testing.T) {
	r := rand.New(rand.NewPCG(93, 93))
	leaders, entries := 0, 0
	for run := range 3000 {
		many := 3 + 2*(run%2)
		g, _ := impl.NewGroup(many)
		book := &logBook{sure: make([]int, many)}
		calm := 1 + r.IntN(12)
		for time := range 80 {
			g = mustPlayGroup(t, g, failingGroupAct(r, many, calm, time+1))
			book.check(t, g)
		}
		wantGoodGroup(t, g, true)
		wantSafe(t, g, true)
		leaders, entries = leaders+book.leaders, entries+len(book.committed)
	}
	if leaders < 10000 || entries < 3000 {
		t.Errorf("only %d leaders were elected and %d entries committed, which is too few to lose one", leaders, entries)
	}
}

// TestCommittedEntriesStayAfterShortTerms lets every leader append one entry, copy it to a few others or to none, and crash.
func TestCommittedEntriesStayAfterShortTerms(t *testing.T) {
	r := rand.New(rand.NewPCG(94, 94))
	entries, refused := 0, 0
	for run := range 1000 {
		many := 3 + 2*(run%2)
		g, _ := impl.NewGroup(many)
		book := &logBook{sure: make([]int, many)}
		for term := range 40 {
			for _, who := range r.Perm(many) {
				g = mustPlayGroup(t, g, doOn([]int{starting, starting, crashing}[r.IntN(3)], who))
			}
			next := mustPlayGroup(t, g, doOn(electing, r.IntN(many)))
			if next.Term == g.Term {
				refused++
			}
			g = next
			for _, a := range groupActs(put(floorAt(term+1)), doOn(copying, r.IntN(many)), doOn(advancing, 0), doOn(copying, r.IntN(many)), doOn(advancing, 0))[r.IntN(3):] {
				g = mustPlayGroup(t, g, a)
				book.check(t, g)
			}
		}
		wantSafe(t, g, true)
		entries += len(book.committed)
	}
	if entries < 3000 || refused < 3000 {
		t.Errorf("%d entries were committed and %d elections refused, which is too few", entries, refused)
	}
}

// TestCommittedEntriesAreWhatAMajorityHas checks the leader's view against all logs, whatever happened before.
func TestCommittedEntriesAreWhatAMajorityHas(t *testing.T) {
	r := rand.New(rand.NewPCG(95, 95))
	for run := range 600 {
		many := 3 + 2*(run%2)
		g, _ := impl.NewGroup(many)
		for time := range 100 {
			g = mustPlayGroup(t, g, failingGroupAct(r, many, 8, time+1))
			sure, ok := impl.SureLog(g)
			if !ok {
				continue
			}
			have := 0
			for _, x := range g.Reps {
				if startsWith(x.Log, sure) {
					have++
				}
			}
			if have <= many/2 {
				t.Fatalf("%v is committed, but only %d of %v have it", sure, have, g.Reps)
			}
		}
	}
}
