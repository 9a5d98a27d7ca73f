package tests

import (
	"fmt"
	"slices"
	"strings"
	"testing"

	"loop.example/g00850/impl"
)

// oddHouses has valid and invalid houses, around the limits and far from them.
func oddHouses() []impl.House {
	h := exampleHouse()
	l := append(goodHouses(), badHouses()...)
	l = append(l, impl.House{Group: h.Group, Disks: make([]impl.Disk, 100000)}, impl.House{Group: groupOf(1, -1, newReps(100000)...), Disks: make([]impl.Disk, 100000)})
	for _, g := range oddGroups()[len(goodGroups())+len(badGroups()):] {
		l = append(l, in(g, h))
	}
	for _, d := range oddHouseDisks() {
		for i := range h.Disks {
			l = append(l, withDisk(h, i, d), withDisk(h, i, disk(h.Disks[i].Kept+d.Kept, d.Loose)))
		}
	}
	return l
}

// oddHouseDisks has disks with intact frames that are entries or are not, with bytes that are none, and with too many.
func oddHouseDisks() []impl.Disk {
	var l []impl.Disk
	for _, b := range append(append(oddDiskBytes(), tails()...), logBytes(logOf(1, 1, 4)), logBytes(logOf(4, 1))+"\x80", logBytes(longLog(1000, 3)), strings.Repeat("\xff", mostDisk+1)) {
		l = append(l, disk(b, ""), disk("", b), disk(b, "\xff"))
	}
	for _, b := range strayBodies() {
		l = append(l, disk(frames(b), ""), disk("\xff", frames(b)))
	}
	return l
}

func TestEntryBytesAcceptsAllArguments(t *testing.T) {
	for _, r := range oddRecsOfGroups() {
		for _, term := range append(slices.Clone(oddInts), finalTerm-1, finalTerm, finalTerm+1) {
			e := impl.Entry{Term: term, Rec: r}
			if !isRec(r) || !isWithin(term, 1, finalTerm) {
				wantEntryBytes(t, e, "", false)
				continue
			}
			wantEntryBytes(t, e, entryBytes(e), true)
			wantReadEntry(t, entryBytes(e), e, true)
		}
	}
}

func TestReadEntryAcceptsAllArguments(t *testing.T) {
	for _, b := range slices.Concat(oddStrings(), oddDiskBytes(), strayBodies(), tails()) {
		for _, s := range []string{b, "\x01" + b, "\xc8\x01" + b, entryBytes(entry(1, 1)) + b} {
			e, ok := modelReadEntry(s)
			wantReadEntry(t, s, e, ok)
		}
	}
	for _, b := range oddBodies() {
		wantNoEntry(t, "\x01"+sealBytes(b))
	}
}

func TestOnDiskAcceptsAllArguments(t *testing.T) {
	for _, d := range append(oddDisks(), oddHouseDisks()...) {
		l, ok := modelOnDisk(d)
		wantOnDisk(t, d, l, ok)
		d.Kept = logBytes(logOf(1, 2)) + d.Kept
		l, ok = modelOnDisk(d)
		wantOnDisk(t, d, l, ok)
	}
}

func TestGoodHouseAcceptsAllArguments(t *testing.T) {
	for _, h := range oddHouses() {
		if isHouse(h) {
			wantGoodHouse(t, h, true)
		} else {
			wantHouseRefused(t, h)
		}
	}
}

func TestNewHouseAcceptsAllArguments(t *testing.T) {
	for _, many := range append(slices.Clone(oddInts), oddNumbers...) {
		if many == 3 || many == 5 {
			wantNewHouse(t, many, housed(groupOf(0, -1, newReps(many)...)), true)
		} else {
			wantNewHouse(t, many, impl.House{}, false)
		}
	}
}

func TestActHouseAcceptsAllArguments(t *testing.T) {
	houses := goodHouses()[:40]
	for _, h := range append(houses, fullHouse(), exampleHouse()) {
		for _, kind := range append(slices.Clone(oddNumbers), 7, 8, 9) {
			for _, r := range oddNumbers {
				a := impl.GroupAct{Kind: kind, Rep: r, Rec: floorAt(3)}
				next, ok := modelActHouse(h, a)
				wantActHouse(t, h, a, next, ok)
			}
		}
	}
	for _, r := range oddRecsOfGroups() {
		for kind := range tearing + 2 {
			a := impl.GroupAct{Kind: kind, Rep: 1, Rec: r}
			next, ok := modelActHouse(exampleHouse(), a)
			wantActHouse(t, exampleHouse(), a, next, ok)
		}
	}
}

func TestTearHouseAcceptsAllArguments(t *testing.T) {
	h := exampleHouse()
	for _, r := range oddRecsOfGroups() {
		for _, keep := range append(slices.Clone(oddInts), 7, 12, 13, 14, 15, 16, 17) {
			for _, torn := range []bool{false, true} {
				next, ok := modelTear(h, r, keep, torn)
				wantTear(t, h, r, keep, torn, next, ok)
			}
		}
	}
	for _, h := range goodHouses() {
		for _, keep := range oddInts {
			next, ok := modelTear(h, longestRec(), keep, true)
			wantTear(t, h, longestRec(), keep, true, next, ok)
		}
	}
}

func TestPlayHouseAcceptsAllArguments(t *testing.T) {
	for _, h := range append(goodHouses()[:30], fullHouse(), exampleHouse()) {
		for _, kind := range append(slices.Clone(oddNumbers), 7, 8, 9) {
			for _, x := range oddNumbers {
				l := []impl.HouseAct{{Kind: kind, Rep: x, Rec: floorAt(3), Keep: x, Torn: x%2 == 0}}
				want, ok := modelPlayHouse(h, l)
				wantPlayHouse(t, h, l, want, ok)
			}
		}
	}
	for _, r := range oddRecsOfGroups() {
		for kind := range tearing + 2 {
			l := []impl.HouseAct{{Kind: kind, Rep: 1, Rec: r, Keep: 3}}
			want, ok := modelPlayHouse(exampleHouse(), l)
			wantPlayHouse(t, exampleHouse(), l, want, ok)
		}
	}
	many := slices.Repeat(append(houseActs(doOn(electing, 1), put(floorAt(3)), doOn(copying, 0)), tear(floorAt(4), 15, false), inHouse(doOn(starting, 1))), mostHouseActs)
	for _, h := range goodHouses()[:50] {
		for _, n := range []int{0, 5, mostHouseActs, mostHouseActs + 1} {
			want, ok := modelPlayHouse(h, many[:n])
			wantPlayHouse(t, h, many[:n], want, ok)
		}
	}
	wantPlayHouse(t, exampleHouse(), make([]impl.HouseAct, 1000000), impl.House{}, false)
}

type heldHouseActs []impl.HouseAct

func (l heldHouseActs) text() string {
	s := ""
	for i, a := range l {
		s += fmt.Sprint(i, a.Kind, a.Rep, numbersOf(a.Rec), a.Keep, a.Torn, " ")
	}
	return s
}

func (l heldHouseActs) spoil() {
	l = l[:cap(l)]
	for i := range l {
		l[i] = impl.HouseAct{Kind: -9, Rep: -9, Rec: impl.Rec{Kind: -9, Reads: l[i].Rec.Reads, Writes: l[i].Rec.Writes}, Keep: -9, Torn: !l[i].Torn}
	}
}

func slicesOfHouse(h impl.House) []heldSlice {
	return append(slicesOfGroup(h.Group), sliceOf[impl.Disk](h.Disks))
}

// wholeOfHouse returns the slices of a house, and of actions in it, with all that is behind their lengths.
func wholeOfHouse(h impl.House, l []impl.HouseAct) []heldSlice {
	l = l[:cap(l)]
	held := append(wholeOfGroup(h.Group, nil), sliceOf[impl.Disk](h.Disks[:cap(h.Disks)]), heldHouseActs(l))
	for _, a := range l {
		held = append(held, wholeOfRec(a.Rec)...)
	}
	return held
}

// crowdedHouse has the crowded group on disks that are a part of more; replica 2 is down and has one entry more on its disk, and bytes that are none.
func crowdedHouse() impl.House {
	h := impl.House{Group: crowdedGroup()}
	for _, r := range h.Group.Reps[:5] {
		h.Disks = append(h.Disks, logDisk(r.Log, ""))
	}
	h.Disks[2].Kept += logBytes([]impl.Entry{crowdedEntry(2)}) + "\x80"
	h.Disks = h.Disks[:3]
	return h
}

// crowdedHouseActs are some of the actions of a longer slice.
func crowdedHouseActs() []impl.HouseAct {
	return append(houseActs(put(crowdedRec()), doOn(copying, 1), doOn(starting, 2), doOn(advancing, 0), put(crowdedRec()), doOn(crashing, 1)), tear(crowdedRec(), len(logBytes([]impl.Entry{crowdedEntry(3)})), false),
		inHouse(doOn(starting, 1)), inHouse(doOn(starting, 0)), inHouse(doOn(electing, 0)), tear(crowdedRec(), 3, true), inHouse(doOn(starting, 0)))[:10]
}

func TestHousesNeitherChangeNorReadBehindTheirArguments(t *testing.T) {
	h, l := crowdedHouse(), crowdedHouseActs()
	before := textsOf(wholeOfHouse(h, l))
	alone := cloneHouse(h)
	rec := cloneRec(l[0].Rec)
	for range 2 {
		wantGoodHouse(t, h, true)
		wantEntryBytes(t, h.Group.Reps[0].Log[0], entryBytes(alone.Group.Reps[0].Log[0]), true)
		for kind := range tearing + 2 {
			for r := -1; r < 6; r++ {
				next, ok := modelActHouse(alone, impl.GroupAct{Kind: kind, Rep: r, Rec: rec})
				wantActHouse(t, h, impl.GroupAct{Kind: kind, Rep: r, Rec: l[0].Rec}, next, ok)
			}
		}
		for keep := -1; keep < 40; keep++ {
			next, ok := modelTear(alone, rec, keep, keep%2 == 0)
			wantTear(t, h, l[0].Rec, keep, keep%2 == 0, next, ok)
		}
		for i := range len(l) + 1 {
			next, ok := modelPlayHouse(alone, l[:i])
			wantPlayHouse(t, h, l[:i], next, ok)
		}
		if now := textsOf(wholeOfHouse(h, l)); !slices.Equal(now, before) {
			t.Fatalf("the arguments become %v, before %v", now, before)
		}
	}
}

// houseResults collects each result that is given to it.
type houseResults struct {
	houses  []impl.House
	entries [][]impl.Entry
}

func (c *houseResults) add(t *testing.T, name string, h impl.House, ok bool) {
	t.Helper()
	if !ok {
		t.Fatalf("%s fails", name)
	}
	c.houses = append(c.houses, h)
}

func (c *houseResults) held() [][]heldSlice {
	var held [][]heldSlice
	for _, h := range c.houses {
		held = append(held, slicesOfHouse(h))
	}
	for _, l := range c.entries {
		held = append(held, slicesOfLog(l))
	}
	return held
}

// resultsOfHouse has the results of all functions for this house.
func resultsOfHouse(t *testing.T, h impl.House, l []impl.HouseAct) *houseResults {
	t.Helper()
	c := &houseResults{}
	made, ok := impl.NewHouse(5)
	c.add(t, "NewHouse", made, ok)
	for _, d := range append(slices.Clone(h.Disks), disk(logBytes(logOf(1)), logBytes([]impl.Entry{crowdedEntry(2)}))) {
		log, ok := impl.OnDisk(d)
		if !ok || len(log) == 0 {
			t.Fatalf("OnDisk returns %v, %v", log, ok)
		}
		e, ok := impl.ReadEntry(entryBytes(log[0]))
		if !ok {
			t.Fatal("ReadEntry fails")
		}
		c.entries = append(c.entries, log, []impl.Entry{e})
	}
	risen, _ := impl.ActHouse(h, doOn(starting, 2))
	for _, x := range []impl.House{h, risen, in(led(risen.Group, 3, 2), risen)} {
		for kind := range tearing {
			for r := range 3 {
				if next, ok := impl.ActHouse(x, impl.GroupAct{Kind: kind, Rep: r, Rec: l[0].Rec}); ok {
					c.houses = append(c.houses, next)
				}
			}
		}
		for _, keep := range []int{0, 5} {
			next, ok := impl.TearHouse(x, l[0].Rec, keep, true)
			c.add(t, "TearHouse", next, ok)
		}
		for _, a := range [][]impl.HouseAct{nil, {}, {{}}, {l[0], l[0]}, {l[0], inHouse(doOn(copying, 1)), l[0], inHouse(doOn(copying, 0))}, l} {
			played, ok := impl.PlayHouse(x, a)
			c.add(t, "PlayHouse", played, ok)
		}
	}
	if len(c.houses) < 55 {
		t.Fatalf("only %d results", len(c.houses))
	}
	return c
}

func TestResultsOfHousesAreNewMemory(t *testing.T) {
	h, l := crowdedHouse(), crowdedHouseActs()
	results := append(resultsOfHouse(t, h, l).held(), resultsOfHouse(t, h, l).held()...)
	wantNewResults(t, results, wholeOfHouse(h, l))
}

// TestBytesOfHousesAreNewMemory looks at the bytes of the disks, and at the keys and values that are read from disks.
func TestBytesOfHousesAreNewMemory(t *testing.T) {
	h, l := crowdedHouse(), crowdedHouseActs()
	c := resultsOfHouse(t, h, l)
	var bytes []string
	for _, x := range c.houses {
		for _, d := range x.Disks {
			bytes = append(bytes, d.Kept, d.Loose)
		}
	}
	for _, log := range c.entries {
		for _, e := range log {
			bytes = append(bytes, e.Rec.Reads...)
			for _, w := range e.Rec.Writes {
				bytes = append(bytes, w.Key, w.Val)
			}
		}
	}
	for i, x := range bytes {
		for _, d := range h.Disks {
			if sharesMemory(x, d.Kept) {
				t.Errorf("%q has a part of the argument %q", x, d.Kept)
			}
		}
		for _, y := range bytes[:i] {
			// Strings of one byte are not in memory of their own.
			if len(x) > 1 && len(y) > 1 && sharesMemory(x, y) {
				t.Errorf("the results %q and %q share memory", x, y)
			}
		}
	}
}

func TestResultsOfHousesOutliveTheirArguments(t *testing.T) {
	h, l := crowdedHouse(), crowdedHouseActs()
	results := resultsOfHouse(t, h, l).held()
	before := textsOfResults(results)
	for _, x := range wholeOfHouse(h, l) {
		x.spoil()
	}
	if now := textsOfResults(results); !slices.EqualFunc(now, before, slices.Equal) {
		t.Errorf("the results become %v with the arguments", now)
	}
}

// TestAppendingToOneSliceOfAHouseChangesNoOther appends where a result might have room that another one uses.
func TestAppendingToOneSliceOfAHouseChangesNoOther(t *testing.T) {
	h, l := crowdedHouse(), crowdedHouseActs()
	before := textsOf(wholeOfHouse(h, l))
	c := resultsOfHouse(t, h, l)
	now := textsOfResults(c.held())
	for _, x := range c.houses {
		_ = append(x.Disks, disk("spoilt", "spoilt"), disk("spoilt", "spoilt"))
		_ = append(x.Group.Reps, on(0, entry(9, 9)), on(0))
		for _, r := range x.Group.Reps {
			c.entries = append(c.entries, r.Log)
		}
	}
	for _, log := range c.entries {
		_ = append(log, entry(9, 9), entry(9, 9))
		for _, e := range log {
			_ = append(e.Rec.Reads, "spoilt", "spoilt")
			_ = append(e.Rec.Writes, store("spoilt", "spoilt"), drop("spoilt"))
		}
	}
	if after := textsOfResults(c.held()[:len(now)]); !slices.EqualFunc(after, now, slices.Equal) {
		t.Errorf("the results become %v, before %v", after, now)
	}
	if now := textsOf(wholeOfHouse(h, l)); !slices.Equal(now, before) {
		t.Errorf("the arguments become %v, before %v", now, before)
	}
}

func TestHousesDoNotDependOnEarlierCalls(t *testing.T) {
	h, l := crowdedHouse(), crowdedHouseActs()
	before := textsOfResults(resultsOfHouse(t, h, l).held())
	for _, odd := range oddHouses() {
		impl.NewHouse(len(odd.Disks))
		impl.GoodHouse(odd)
		impl.ActHouse(odd, doOn(crashing, 0))
		impl.ActHouse(odd, doOn(starting, 2))
		impl.TearHouse(odd, l[0].Rec, 3, true)
		impl.PlayHouse(odd, l)
		for _, d := range odd.Disks[:min(len(odd.Disks), 5)] {
			impl.OnDisk(d)
			impl.ReadEntry(d.Kept)
		}
	}
	if now := textsOfResults(resultsOfHouse(t, h, l).held()); !slices.EqualFunc(now, before, slices.Equal) {
		t.Errorf("the results are %v, before %v", now, before)
	}
}
