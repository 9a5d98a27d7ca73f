package tests

import (
	"math"
	"slices"
	"strings"
	"testing"

	"loop.example/g00850/impl"
)

// oddParts has valid and invalid reads and writes, around the limits and far from them.
func oddParts() []impl.Rec {
	reads, writes := longestParts()
	return []impl.Rec{
		{}, {Reads: []string{}, Writes: []impl.Write{}}, {Reads: []string{""}}, {Writes: make([]impl.Write, 1)},
		{Reads: []string{"a"}}, {Writes: writes[:1]}, {Reads: []string{"a"}, Writes: writes[:1]}, {Reads: reads, Writes: writes},
		{Reads: []string{"b", "a"}}, {Reads: []string{"\xff"}}, {Reads: manyKeys(mostParts + 1)}, {Writes: manyWrites(mostParts + 1)},
		{Reads: make([]string, 50000)}, {Writes: make([]impl.Write, 50000)}, {Reads: []string{strings.Repeat("a", 50000)}},
		{Writes: []impl.Write{store("a", strings.Repeat("a", 50000))}}, {Writes: []impl.Write{{Key: "a", Val: "1", Gone: true}}},
	}
}

func TestRecsAcceptAllArguments(t *testing.T) {
	for _, r := range oddParts() {
		for _, r.Kind = range []int{math.MinInt, -1, 0, 1, 2, 3, 4, 5, 1 << 32, math.MaxInt} {
			for _, r.Txn = range []int{math.MinInt, -1, 0, 1, lastTxn, lastTxn + 1, math.MaxInt} {
				for _, r.Time = range []int{math.MinInt, -1, 0, 1, lastTrue, lastTrue + 1, math.MaxInt} {
					for _, r.Lead = range []int{math.MinInt, -1, 0, lastLead, lastLead + 1, math.MaxInt} {
						checkOddRec(t, r)
						r.Yes = !r.Yes
						checkOddRec(t, r)
					}
				}
			}
		}
	}
}

func checkOddRec(t *testing.T, r impl.Rec) {
	t.Helper()
	good := isRec(r)
	wantGoodRec(t, r, good)
	if !good {
		wantRecBytes(t, r, "", false)
		wantRecText(t, r, "", false)
		wantKeysOf(t, r, nil, false)
		return
	}
	wantRecBytes(t, r, sealBytes(recBody(r)), true)
	wantTextOfRec(t, r)
	if keys, ok := impl.KeysOf(r); !ok || len(keys) > 2*mostParts || !slices.IsSorted(keys) {
		t.Errorf("KeysOf(%s) = %q, %v", short(r), keys, ok)
	}
}

func TestSameRecAcceptsAllArguments(t *testing.T) {
	l := append(oddParts(), badRecs()[:100]...)
	for _, a := range l {
		for _, b := range l {
			if same := impl.SameRec(a, b); same != equalRec(a, b) {
				t.Errorf("SameRec(%s, %s) = %v", short(a), short(b), same)
			}
		}
	}
}

// oddBodies leaves out what is too long to be sealed in a short time.
func oddBodies() []string {
	var l []string
	for _, s := range oddStrings() {
		if len(s) < 1000 {
			l = append(l, s)
		}
	}
	return l
}

func checkOddBytes(t *testing.T, b string) {
	t.Helper()
	r, ok := impl.ReadRec(b)
	if ok && (!isRec(r) || sealBytes(recBody(r)) != b) || !ok && !equalRec(r, impl.Rec{}) {
		t.Errorf("ReadRec(%.80q) = %s, %v", b, short(r), ok)
	}
}

func TestReadRecAcceptsAllArguments(t *testing.T) {
	for _, s := range oddStrings() {
		checkOddBytes(t, s)
	}
	for _, body := range oddBodies() {
		for _, before := range []string{"", "\x01\x01\x05\x00\x00", "\x01\x01\x05\x00\x00\x00", "\x01\x01\x05\x00\x00\x00\x01", "\x02\x01\x05\x00\x01"} {
			checkOddBytes(t, sealBytes(before+body))
		}
	}
}

func TestReadRecTextAcceptsAllArguments(t *testing.T) {
	for _, s := range oddStrings() {
		for _, before := range []string{
			"", "floor @", "decide ", "decide 2 ", "prepare 3 @20 >1 ", "prepare 3 @20 >1 ?", "prepare 3 @20 >1 !", "prepare 3 @20 >1 !a=",
		} {
			wantByForm(t, before+s)
		}
	}
}

// crowdedRec returns a valid record whose parts are parts of longer slices; everything behind them is valid, too, and would be noticed.
func crowdedRec() impl.Rec {
	reads := []string{"a", "c", "e", "x", "y"}
	l := writes(store("b", "1"), drop("c"), store("f", "2"), store("x", "behind"), drop("y"))
	return prepare(3, 20, 1, reads[:3], l[:3]...)
}

// wholeRec returns a copy of all that a record holds, behind the lengths as well.
func wholeRec(r impl.Rec) impl.Rec {
	r.Reads = slices.Clone(r.Reads[:cap(r.Reads)])
	r.Writes = slices.Clone(r.Writes[:cap(r.Writes)])
	return r
}

func TestRecsNeitherChangeNorReadBehindTheirArguments(t *testing.T) {
	r := crowdedRec()
	before := wholeRec(r)
	want := prepare(3, 20, 1, []string{"a", "c", "e"}, store("b", "1"), drop("c"), store("f", "2"))
	for range 2 {
		wantGoodRec(t, r, true)
		wantRecBytes(t, r, sealBytes(recBody(want)), true)
		wantRecText(t, r, "prepare 3 @20 >1 ?a ?c ?e !b=1 !c- !f=2", true)
		wantKeysOf(t, r, []string{"a", "b", "c", "e", "f"}, true)
		if !impl.SameRec(r, want) || !impl.SameRec(want, r) || impl.SameRec(r, before) {
			t.Error("SameRec reads behind its argument")
		}
		if now := wholeRec(r); !equalRec(now, before) {
			t.Fatalf("%v, before %v", now, before)
		}
	}
	empty := prepare(3, 20, 1, []string{"a", "b"}[:0], writes(store("a", "1"), drop("b"))[:0]...)
	wantGoodRec(t, empty, false)
	empty = impl.Rec{Kind: kindFloor, Time: 9, Reads: []string{"a", "b"}[:0], Writes: writes(store("a", "1"), drop("b"))[:0]}
	wantGoodRec(t, empty, true)
	wantRecText(t, empty, "floor @9", true)
	wantRecBytes(t, empty, sealBytes(recBody(floorAt(9))), true)
	wantKeysOf(t, empty, nil, true)
}

// spoilRec overwrites all that the slices of a record hold, behind their lengths as well.
func spoilRec(r impl.Rec) {
	spoilKeys(r.Reads)
	l := r.Writes[:cap(r.Writes)]
	for i := range l {
		l[i] = impl.Write{Key: "spoilt", Val: "spoilt", Gone: true}
	}
}

func spoilKeys(l []string) {
	l = l[:cap(l)]
	for i := range l {
		l[i] = "spoilt"
	}
}

func TestRecsOfResultsAreNewMemory(t *testing.T) {
	want := cloneRec(crowdedRec())
	b, s := sealBytes(recBody(want)), recText(want)
	var results []impl.Rec
	for range 2 {
		one, _ := impl.ReadRec(b)
		two, _ := impl.ReadRecText(s)
		results = append(results, one, two)
	}
	for i := range results {
		spoilRec(results[i])
		for j := i + 1; j < len(results); j++ {
			if !equalRec(results[j], want) {
				t.Errorf("changing result %d changes result %d to %v", i, j, results[j])
			}
		}
	}
	wantReadRec(t, b, want, true)
	wantReadRecText(t, s, want, true)
}

func TestKeysAndTextsOfRecsAreNewMemory(t *testing.T) {
	for _, r := range []impl.Rec{
		crowdedRec(), prepare(1, 1, 0, []string{"a", "b", "c", "d"}[:2]), prepare(1, 1, 0, nil, drop("a")), prepare(1, 1, 0, []string{"a"}, drop("a")),
	} {
		before := wholeRec(r)
		one, _ := impl.KeysOf(r)
		two, _ := impl.KeysOf(r)
		keys := slices.Clone(one)
		spoilKeys(one)
		if !slices.Equal(two, keys) {
			t.Errorf("changing one list of keys changes another one to %q", two)
		}
		if now := wholeRec(r); !equalRec(now, before) {
			t.Errorf("changing the keys changes the record to %v", now)
		}
		spoilRec(r)
		if !slices.Equal(two, keys) {
			t.Errorf("the keys become %q with the record", two)
		}
	}
	r := crowdedRec()
	b, _ := impl.RecBytes(r)
	s, _ := impl.RecText(r)
	spoilRec(r)
	if want := crowdedRec(); b != sealBytes(recBody(want)) || s != recText(want) {
		t.Errorf("the forms become %q and %q with the record", b, s)
	}
}

func TestRecReadersReturnNoPartsOfTheirArguments(t *testing.T) {
	want := cloneRec(crowdedRec())
	b, s := sealBytes(recBody(want)), recText(want)
	one, _ := impl.ReadRec(b)
	two, _ := impl.ReadRecText(s)
	for _, r := range []impl.Rec{one, two} {
		texts := slices.Clone(r.Reads)
		for _, w := range r.Writes {
			texts = append(texts, w.Key, w.Val)
		}
		if len(texts) != 9 {
			t.Fatalf("%v is read", r)
		}
		for _, text := range texts {
			if sharesMemory(text, b) || sharesMemory(text, s) {
				t.Errorf("%q is a part of the argument", text)
			}
		}
	}
}

func TestRecsDoNotDependOnEarlierCalls(t *testing.T) {
	for range 2 {
		for _, r := range append(goodRecs(), badRecs()...) {
			good := isRec(r)
			wantGoodRec(t, r, good)
			if good {
				wantRecBytes(t, r, sealBytes(recBody(r)), true)
				wantTextOfRec(t, r)
			}
		}
		for _, s := range oddBodies() {
			impl.ReadRec(sealBytes(s))
			impl.ReadRecText(s)
		}
	}
}
