package tests

import (
	"math"
	"slices"
	"strings"
	"testing"

	"loop.example/g00850/impl"
)

// oddNumbers are tried as nodes, continents, distances, indexes and delays.
var oddNumbers = []int{math.MinInt, math.MinInt + 1, -1 << 32, -2, -1, 0, 1, 2, 3, 4, 5, 6, 20, 21, 50, 51, 59, 60, 61, 1 << 32, math.MaxInt - 1, math.MaxInt}

// oddNets has valid and invalid nets, around the limits and far from them.
func oddNets() []impl.Net {
	l := append(goodNets(), badNets()...)
	l = append(l, impl.Net{Homes: make([]int, 100000)}, impl.Net{Homes: []int{0, 0}, Under: make([]impl.Letter, 100000)}, netAt(0, slices.Repeat(dueAt(5), 100000)...))
	for _, x := range oddNumbers {
		l = append(l, impl.Net{Homes: []int{0, 2}, Far: x, Under: dueAt()}, impl.Net{Homes: []int{x}}, impl.Net{Homes: []int{0, x, 2}, Far: 3})
		l = append(l, netAt(0, letter(x, 1, 1, "x")), netAt(0, letter(1, x, 1, "x")), netAt(0, letter(x, x, 1, "x")))
	}
	for _, time := range append(slices.Clone(oddTimes), lastDue-1, lastDue, lastDue+1) {
		l = append(l, netAt(time), netAt(time, dueAt(107)...), netAt(107, dueAt(time)...), netAt(5, dueAt(time, 107)...), netAt(5, dueAt(107, time)...))
	}
	for _, s := range []string{"", "\x00", "\xff", "\u00e9", strings.Repeat("\xff", mostBody), strings.Repeat("\xff", mostBody+1), strings.Repeat("x", 100000)} {
		l = append(l, netAt(0, letter(0, 1, 1, s)), netAt(1, append(dueAt(1, 1), letter(0, 1, 1, s))...))
	}
	return l
}

func TestNetsAcceptAllArguments(t *testing.T) {
	for _, n := range oddNets() {
		if !isNet(n) {
			wantNetRefused(t, n)
			continue
		}
		wantGoodNet(t, n, true)
		next, come, ok := modelDeliver(n)
		wantDeliver(t, n, next, come, ok)
		next, ok = modelTick(n)
		wantTick(t, n, next, ok)
	}
}

func TestNewNetAcceptsAllArguments(t *testing.T) {
	for _, n := range oddNets() {
		for _, far := range oddNumbers {
			want, ok := judged(impl.Net{Homes: n.Homes, Far: far})
			wantNewNet(t, n.Homes, far, want, ok)
		}
	}
}

func TestSendingAcceptsAllArguments(t *testing.T) {
	bodies := []string{"", "x", "\x00\xff", strings.Repeat("y", mostBody), strings.Repeat("y", mostBody+1), strings.Repeat("y", 100000)}
	for _, n := range oddNets() {
		if !isNet(n) {
			continue
		}
		for _, from := range oddNumbers {
			for _, to := range oddNumbers {
				trip, ok := modelTrip(n, from, to)
				wantTrip(t, n, from, to, trip, ok)
				for _, body := range bodies {
					want, ok := modelSend(n, from, to, body)
					wantSend(t, n, from, to, body, want, ok)
				}
			}
		}
	}
}

func TestFailuresAcceptAllArguments(t *testing.T) {
	for _, n := range oddNets() {
		for _, i := range append(slices.Clone(oddNumbers), len(n.Under)-1, len(n.Under)) {
			want, ok := modelLose(n, i)
			wantLose(t, n, i, want, ok)
			want, ok = modelDouble(n, i)
			wantDouble(t, n, i, want, ok)
			for _, by := range oddNumbers {
				want, ok := modelDelay(n, i, by)
				wantDelay(t, n, i, by, want, ok)
			}
		}
	}
}

// crowdedNet returns a net whose slices are parts of longer ones; everything behind them is valid, too, and would be noticed.
func crowdedNet() impl.Net {
	homes := []int{0, 2, 0, 1, 1}
	under := append(dueAt(5, 7, 7, 9), letter(0, 1, 9, "behind"), letter(1, 0, 9, "behind"), letter(1, 0, 9, "behind"))
	return impl.Net{Now: 7, Homes: homes[:3], Far: 5, Under: under[:4]}
}

func slicesOfNet(n impl.Net) []heldSlice {
	return []heldSlice{sliceOf[int](n.Homes), sliceOf[impl.Letter](n.Under)}
}

// wholeNet returns the slices of a net with all that is behind their lengths.
func wholeNet(n impl.Net) []heldSlice {
	n.Homes, n.Under = n.Homes[:cap(n.Homes)], n.Under[:cap(n.Under)]
	return slicesOfNet(n)
}

func TestNetsNeitherChangeNorReadBehindTheirArguments(t *testing.T) {
	n := crowdedNet()
	l := n.Under
	homes, late := []int{0, 2, 0}, letter(l[1].From, l[1].To, 9, l[1].Body)
	x := letter(0, 2, 8, "x")
	before := textsOf(wholeNet(n))
	for range 2 {
		wantGoodNet(t, n, true)
		wantNewNet(t, n.Homes, 5, impl.Net{Homes: homes, Far: 5}, true)
		wantTrip(t, n, 0, 1, 11, true)
		wantTrip(t, n, 0, 3, 0, false)
		wantSend(t, n, 0, 2, "x", with(n, letters(l[0], l[1], l[2], x, l[3])), true)
		wantSend(t, n, 0, 3, "x", impl.Net{}, false)
		wantLose(t, n, 0, with(n, l[1:]), true)
		wantLose(t, n, 3, with(n, l[:3]), true)
		wantLose(t, n, 4, impl.Net{}, false)
		wantDouble(t, n, 3, with(n, letters(l[0], l[1], l[2], l[3], l[3])), true)
		wantDouble(t, n, 0, with(n, letters(l[0], l[0], l[1], l[2], l[3])), true)
		wantDouble(t, n, 4, impl.Net{}, false)
		wantDelay(t, n, 1, 2, with(n, letters(l[0], l[2], l[3], late)), true)
		wantDelay(t, n, 4, 2, impl.Net{}, false)
		wantDeliver(t, n, with(n, l[3:]), l[:3], true)
		wantTick(t, n, impl.Net{Now: 8, Homes: homes, Far: 5, Under: l}, true)
		if now := textsOf(wholeNet(n)); !slices.Equal(now, before) {
			t.Fatalf("the net becomes %v, before %v", now, before)
		}
	}
}

// resultsOfNet returns every slice of the results of all functions for this net.
func resultsOfNet(t *testing.T, n impl.Net) []heldSlice {
	t.Helper()
	var results []heldSlice
	add := func(name string, n impl.Net, ok bool) {
		if !ok {
			t.Fatalf("%s fails", name)
		}
		results = append(results, slicesOfNet(n)...)
	}
	made, ok := impl.NewNet(n.Homes, n.Far)
	add("NewNet", made, ok)
	for _, x := range []impl.Net{n, with(n, nil), with(n, n.Under[:3]), with(n, n.Under[3:])} {
		sent, ok := impl.SendTo(x, 1, 0, "x")
		add("SendTo", sent, ok)
		ticked, ok := impl.TickNet(x)
		add("TickNet", ticked, ok)
		left, come, ok := impl.Deliver(x)
		add("Deliver", left, ok)
		results = append(results, sliceOf[impl.Letter](come))
		for i := range x.Under {
			lost, ok := impl.LoseOne(x, i)
			add("LoseOne", lost, ok)
			doubled, ok := impl.DoubleOne(x, i)
			add("DoubleOne", doubled, ok)
			delayed, ok := impl.DelayOne(x, i, 2)
			add("DelayOne", delayed, ok)
		}
	}
	return results
}

func TestResultsOfNetsAreNewMemory(t *testing.T) {
	n := crowdedNet()
	results := append(resultsOfNet(t, n), resultsOfNet(t, n)...)
	wantNewMemory(t, results, wholeNet(n))
}

func TestResultsOfNetsOutliveTheirArguments(t *testing.T) {
	n := crowdedNet()
	results := resultsOfNet(t, n)
	before := textsOf(results)
	for _, x := range slicesOfNet(n) {
		x.spoil()
	}
	if now := textsOf(results); !slices.Equal(now, before) {
		t.Errorf("the results become %v with the argument", now)
	}
}

// TestAppendingToOneResultChangesNoOther appends where a result might have room that another one uses.
func TestAppendingToOneResultChangesNoOther(t *testing.T) {
	n := crowdedNet()
	l := slices.Clone(n.Under)
	left, come, _ := impl.Deliver(n)
	_ = append(come, letter(1, 2, 0, "spoilt"), letter(1, 2, 0, "spoilt"))
	_ = append(left.Homes, 9)
	if !slices.Equal(left.Under, l[3:]) || !slices.Equal(come, l[:3]) {
		t.Errorf("the results become %v and %v", left.Under, come)
	}
	lost, _ := impl.LoseOne(n, 0)
	_ = append(lost.Under, letter(1, 2, 0, "spoilt"))
	if !slices.Equal(n.Under[:cap(n.Under)][4:5], letters(letter(0, 1, 9, "behind"))) || !slices.Equal(n.Under, l) {
		t.Errorf("the argument becomes %v", n.Under[:cap(n.Under)])
	}
}

// TestNoLetterStandsBehindAResult looks for letters that are lost, delayed or delivered.
func TestNoLetterStandsBehindAResult(t *testing.T) {
	n := crowdedNet()
	left, come, _ := impl.Deliver(n)
	lost, _ := impl.LoseOne(n, 3)
	delayed, _ := impl.DelayOne(n, 0, 2)
	for i, l := range [][]impl.Letter{left.Under, come, lost.Under, delayed.Under} {
		for _, x := range l[len(l):cap(l)] {
			if x != (impl.Letter{}) {
				t.Errorf("%v stands behind result %d", x, i)
			}
		}
	}
}

func TestNetsDoNotDependOnEarlierCalls(t *testing.T) {
	n := crowdedNet()
	before := textsOf(resultsOfNet(t, n))
	for _, odd := range oddNets() {
		impl.NewNet(odd.Homes, odd.Far)
		impl.SendTo(odd, 0, 1, "x")
		impl.LoseOne(odd, 0)
		impl.DoubleOne(odd, 0)
		impl.DelayOne(odd, 0, 1)
		impl.Deliver(odd)
		impl.TickNet(odd)
	}
	if now := textsOf(resultsOfNet(t, n)); !slices.Equal(now, before) {
		t.Errorf("the results are %v, before %v", now, before)
	}
}
