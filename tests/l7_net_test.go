package tests

import (
	"cmp"
	"fmt"
	"math"
	"math/rand/v2"
	"slices"
	"strings"
	"testing"

	"loop.example/g00850/impl"
)

// The limits are written out, so that a changed constant of the program is noticed.
const (
	mostNodes = 5
	mostFar   = 20
	mostUnder = 60
	mostBody  = 40
	mostLate  = 50
	lastHome  = 2
	lastDue   = 100200
)

func letter(from int, to int, due int, body string) impl.Letter {
	return impl.Letter{From: from, To: to, Due: due, Body: body}
}

func letters(l ...impl.Letter) []impl.Letter { return l }

// netAt has the homes and the distance of the chapter's example.
func netAt(now int, under ...impl.Letter) impl.Net {
	return impl.Net{Now: now, Homes: []int{0, 2, 0}, Far: 5, Under: under}
}

// dueAt returns letters with the bodies a, b, c and so on, due at these times.
func dueAt(times ...int) []impl.Letter {
	var l []impl.Letter
	for i, due := range times {
		l = append(l, letter(i%2, 2, due, string([]byte{'a' + byte(i)})))
	}
	return l
}

// manyLetters are due at 100, 100, 101, 101 and so on.
func manyLetters(n int) []impl.Letter {
	var l []impl.Letter
	for i := range n {
		l = append(l, letter(1, 0, 100+i/2, fmt.Sprint("m", i)))
	}
	return l
}

func byDue(a impl.Letter, b impl.Letter) int { return cmp.Compare(a.Due, b.Due) }

func isLetter(l impl.Letter, nodes int) bool {
	return isWithin(l.From, 0, nodes-1) && isWithin(l.To, 0, nodes-1) && l.From != l.To && isWithin(l.Due, 0, lastDue) && isWithin(len(l.Body), 1, mostBody)
}

func isNet(n impl.Net) bool {
	elsewhere := func(home int) bool { return !isWithin(home, 0, lastHome) }
	wrong := func(l impl.Letter) bool { return !isLetter(l, len(n.Homes)) }
	return isWithin(n.Now, 0, lastTrue) && isWithin(len(n.Homes), 1, mostNodes) && !slices.ContainsFunc(n.Homes, elsewhere) &&
		isWithin(n.Far, 0, mostFar) && len(n.Under) <= mostUnder && !slices.ContainsFunc(n.Under, wrong) && slices.IsSortedFunc(n.Under, byDue)
}

func equalNet(a impl.Net, b impl.Net) bool {
	return a.Now == b.Now && a.Far == b.Far && slices.Equal(a.Homes, b.Homes) && slices.Equal(a.Under, b.Under)
}

func cloneNet(n impl.Net) impl.Net {
	return impl.Net{Now: n.Now, Homes: slices.Clone(n.Homes), Far: n.Far, Under: slices.Clone(n.Under)}
}

// with returns the net with other letters.
func with(n impl.Net, under []impl.Letter) impl.Net {
	n = cloneNet(n)
	n.Under = slices.Clone(under)
	return n
}

// without returns the letters but for the one at index i.
func without(l []impl.Letter, i int) []impl.Letter {
	return slices.Concat(l[:i], l[i+1:])
}

// modelPut appends the letter and lets a stable sort find its place.
func modelPut(l []impl.Letter, x impl.Letter) []impl.Letter {
	put := slices.Concat(l, letters(x))
	slices.SortStableFunc(put, byDue)
	return put
}

// judged is what a call returns for a net that a model has made of a valid one.
func judged(n impl.Net) (impl.Net, bool) {
	if !isNet(n) {
		return impl.Net{}, false
	}
	return n, true
}

func modelTrip(n impl.Net, from int, to int) (int, bool) {
	if !isNet(n) || !isWithin(from, 0, len(n.Homes)-1) || !isWithin(to, 0, len(n.Homes)-1) {
		return 0, false
	}
	trip := 1
	for home := min(n.Homes[from], n.Homes[to]); home < max(n.Homes[from], n.Homes[to]); home++ {
		trip += n.Far
	}
	return trip, true
}

func modelSend(n impl.Net, from int, to int, body string) (impl.Net, bool) {
	trip, ok := modelTrip(n, from, to)
	if !ok {
		return impl.Net{}, false
	}
	return judged(with(n, modelPut(n.Under, letter(from, to, n.Now+trip, body))))
}

func modelLose(n impl.Net, i int) (impl.Net, bool) {
	if !isNet(n) || !isWithin(i, 0, len(n.Under)-1) {
		return impl.Net{}, false
	}
	return judged(with(n, without(n.Under, i)))
}

func modelDouble(n impl.Net, i int) (impl.Net, bool) {
	if !isNet(n) || !isWithin(i, 0, len(n.Under)-1) {
		return impl.Net{}, false
	}
	return judged(with(n, modelPut(n.Under, n.Under[i])))
}

func modelDelay(n impl.Net, i int, by int) (impl.Net, bool) {
	if !isNet(n) || !isWithin(i, 0, len(n.Under)-1) || !isWithin(by, 1, mostLate) {
		return impl.Net{}, false
	}
	late := n.Under[i]
	late.Due += by
	return judged(with(n, modelPut(without(n.Under, i), late)))
}

func modelDeliver(n impl.Net) (impl.Net, []impl.Letter, bool) {
	if !isNet(n) {
		return impl.Net{}, nil, false
	}
	var come, left []impl.Letter
	for _, l := range n.Under {
		if l.Due <= n.Now {
			come = append(come, l)
		} else {
			left = append(left, l)
		}
	}
	return with(n, left), come, true
}

func modelTick(n impl.Net) (impl.Net, bool) {
	if !isNet(n) {
		return impl.Net{}, false
	}
	n = cloneNet(n)
	n.Now++
	return judged(n)
}

// wantNet compares with the zero net if the call has to fail. It formats the call only to report it, because there are many calls with long arguments.
func wantNet(t *testing.T, got impl.Net, gotOK bool, want impl.Net, ok bool, name string, arguments ...any) {
	t.Helper()
	if !equalNet(got, want) || gotOK != ok {
		t.Errorf("%s%s = %s, %v; want %s, %v", name, short(arguments), short(got), gotOK, short(want), ok)
	}
}

func wantGoodNet(t *testing.T, n impl.Net, good bool) {
	t.Helper()
	if impl.GoodNet(n) != good {
		t.Errorf("GoodNet(%s) is %v", short(n), !good)
	}
}

func wantNewNet(t *testing.T, homes []int, far int, want impl.Net, ok bool) {
	t.Helper()
	got, gotOK := impl.NewNet(homes, far)
	wantNet(t, got, gotOK, want, ok, "NewNet", homes, far)
}

func wantTrip(t *testing.T, n impl.Net, from int, to int, trip int, ok bool) {
	t.Helper()
	if got, gotOK := impl.TripOf(n, from, to); got != trip || gotOK != ok {
		t.Errorf("TripOf(%s, %d, %d) = %d, %v; want %d, %v", short(n), from, to, got, gotOK, trip, ok)
	}
}

func wantSend(t *testing.T, n impl.Net, from int, to int, body string, want impl.Net, ok bool) {
	t.Helper()
	got, gotOK := impl.SendTo(n, from, to, body)
	wantNet(t, got, gotOK, want, ok, "SendTo", from, to, body, n)
}

func wantLose(t *testing.T, n impl.Net, i int, want impl.Net, ok bool) {
	t.Helper()
	got, gotOK := impl.LoseOne(n, i)
	wantNet(t, got, gotOK, want, ok, "LoseOne", i, n)
}

func wantDouble(t *testing.T, n impl.Net, i int, want impl.Net, ok bool) {
	t.Helper()
	got, gotOK := impl.DoubleOne(n, i)
	wantNet(t, got, gotOK, want, ok, "DoubleOne", i, n)
}

func wantDelay(t *testing.T, n impl.Net, i int, by int, want impl.Net, ok bool) {
	t.Helper()
	got, gotOK := impl.DelayOne(n, i, by)
	wantNet(t, got, gotOK, want, ok, "DelayOne", i, by, n)
}

func wantDeliver(t *testing.T, n impl.Net, want impl.Net, come []impl.Letter, ok bool) {
	t.Helper()
	got, gotCome, gotOK := impl.Deliver(n)
	wantNet(t, got, gotOK, want, ok, "Deliver", n)
	if !slices.Equal(gotCome, come) {
		t.Errorf("Deliver(%s) hands over %s; want %s", short(n), short(gotCome), short(come))
	}
}

func wantTick(t *testing.T, n impl.Net, want impl.Net, ok bool) {
	t.Helper()
	got, gotOK := impl.TickNet(n)
	wantNet(t, got, gotOK, want, ok, "TickNet", n)
}

// wantNetRefused checks that no function takes this net, with arguments that are right for many others.
func wantNetRefused(t *testing.T, n impl.Net) {
	t.Helper()
	wantGoodNet(t, n, false)
	for _, x := range [][2]int{{0, 0}, {0, 1}, {1, 0}, {1, 2}} {
		wantTrip(t, n, x[0], x[1], 0, false)
		wantSend(t, n, x[0], x[1], "x", impl.Net{}, false)
	}
	for i := range 3 {
		wantLose(t, n, i, impl.Net{}, false)
		wantDouble(t, n, i, impl.Net{}, false)
		wantDelay(t, n, i, 1, impl.Net{}, false)
	}
	wantDeliver(t, n, impl.Net{}, nil, false)
	wantTick(t, n, impl.Net{}, false)
}

// mustSend fails the test at once, so that the rest of it is about letters that are there.
func mustSend(t *testing.T, n impl.Net, from int, to int, body string) impl.Net {
	t.Helper()
	sent, ok := impl.SendTo(n, from, to, body)
	if !ok {
		t.Fatalf("SendTo(%s, %d, %d, %q) fails", short(n), from, to, body)
	}
	return sent
}

func mustTick(t *testing.T, n impl.Net, by int) impl.Net {
	t.Helper()
	for range by {
		ticked, ok := impl.TickNet(n)
		if !ok {
			t.Fatalf("TickNet(%s) fails", short(n))
		}
		n = ticked
	}
	return n
}

// spoiltLetters breaks each rule of a letter in a net of three nodes, by one and by more.
func spoiltLetters() []impl.Letter {
	return letters(
		letter(0, 0, 50, "x"), letter(1, 1, 50, "x"), letter(2, 2, 50, "x"),
		letter(-1, 0, 50, "x"), letter(3, 0, 50, "x"), letter(0, -1, 50, "x"), letter(0, 3, 50, "x"), letter(3, 3, 50, "x"), letter(-1, -1, 50, "x"),
		letter(math.MinInt, 0, 50, "x"), letter(0, math.MaxInt, 50, "x"), letter(1<<32, 1, 50, "x"),
		letter(0, 1, 50, ""), letter(0, 1, 50, strings.Repeat("x", mostBody+1)), letter(0, 1, 50, strings.Repeat("x", 50000)),
		letter(0, 1, -1, "x"), letter(0, 1, lastDue+1, "x"), letter(0, 1, math.MinInt, "x"), letter(0, 1, math.MaxInt, "x"), impl.Letter{},
	)
}

// badNets breaks each rule of a net, by one and by more.
func badNets() []impl.Net {
	l := []impl.Net{
		{}, {Homes: []int{}}, {Far: 5, Under: dueAt(1)}, {Homes: []int{3}}, {Homes: []int{-1}}, {Homes: []int{0, 0, 3}}, {Homes: []int{0, -1, 0, 0, 0}},
		{Homes: make([]int, mostNodes+1)}, {Homes: make([]int, 1000)}, {Homes: []int{0, 1}, Far: -1}, {Homes: []int{0, 1}, Far: mostFar + 1},
		netAt(-1), netAt(lastTrue + 1), netAt(math.MinInt), netAt(math.MaxInt), netAt(-1, dueAt(1)...), netAt(lastTrue+1, dueAt(1)...),
		netAt(0, manyLetters(mostUnder+1)...), netAt(0, manyLetters(1000)...), {Homes: []int{0}, Under: letters(letter(0, 0, 1, "x"))},
		netAt(0, dueAt(5, 4)...), netAt(0, dueAt(1, 5, 4)...), netAt(0, dueAt(1, 5, 4, 6)...), netAt(9, dueAt(1, 0)...), netAt(0, dueAt(lastDue, lastDue-1)...),
		netAt(0, dueAt(3, 3, 2, 3)...), netAt(0, dueAt(-1, 0)...), netAt(0, dueAt(-2, -1)...), netAt(0, dueAt(lastDue, lastDue+1)...),
	}
	for _, x := range spoiltLetters() {
		l = append(l, netAt(0, x), netAt(0, modelPut(dueAt(40, 50, 60), x)...))
	}
	return l
}

// goodNets meets the limits exactly, and has nets without letters, with one and with many.
func goodNets() []impl.Net {
	full := netAt(lastTrue, manyLetters(mostUnder)...)
	largest := impl.Net{Now: lastTrue, Homes: []int{2, 0, 1, 0, 2}, Far: mostFar, Under: letters(letter(4, 3, lastDue, strings.Repeat("x", mostBody)))}
	return []impl.Net{
		{Homes: []int{0}}, {Homes: []int{2}}, {Homes: []int{0, 0}}, {Homes: []int{2, 1, 0}, Far: mostFar}, {Homes: []int{0, 0, 1, 1, 2}, Far: 1},
		netAt(0), netAt(lastTrue), netAt(0, dueAt(0)...), netAt(7, dueAt(1, 1, 7, 7, 8, 8, 9)...), netAt(lastTrue-1, dueAt(lastTrue-1, lastTrue, lastDue)...),
		netAt(0, dueAt(0, 0, 0)...), netAt(lastTrue, dueAt(0, lastTrue, lastTrue+1, lastDue, lastDue)...), netAt(110, manyLetters(mostUnder-1)...), full, largest,
	}
}

func TestGoodNet(t *testing.T) {
	for _, n := range goodNets() {
		wantGoodNet(t, n, true)
	}
	for _, n := range badNets() {
		wantNetRefused(t, n)
	}
}

func TestGoodNetChecksTheTime(t *testing.T) {
	for _, now := range []int{0, 1, lastTrue - 1, lastTrue} {
		wantGoodNet(t, netAt(now), true)
		wantGoodNet(t, netAt(now, dueAt(0, lastDue)...), true)
	}
	for _, now := range []int{math.MinInt, -2, -1, lastTrue + 1, lastDue, 1 << 32, math.MaxInt} {
		wantNetRefused(t, netAt(now))
		wantNetRefused(t, netAt(now, dueAt(0, lastDue)...))
	}
}

func TestGoodNetChecksTheHomes(t *testing.T) {
	for n := 1; n <= mostNodes; n++ {
		for at := range n {
			homes := make([]int, n)
			for _, home := range []int{0, 1, 2} {
				homes[at] = home
				wantGoodNet(t, impl.Net{Homes: homes}, true)
			}
			for _, home := range []int{math.MinInt, -2, -1, 3, 4, 256, 1 << 32, math.MaxInt} {
				homes[at] = home
				wantNetRefused(t, impl.Net{Homes: homes})
			}
		}
	}
	for _, n := range []int{0, mostNodes + 1, mostNodes + 2, 256, 257} {
		wantNetRefused(t, impl.Net{Homes: make([]int, n)})
	}
}

func TestGoodNetChecksTheDistance(t *testing.T) {
	for far := range mostFar + 1 {
		wantGoodNet(t, impl.Net{Homes: []int{0, 2}, Far: far}, true)
	}
	for _, far := range []int{math.MinInt, -2, -1, mostFar + 1, mostFar + 2, 256, 1 << 32, math.MaxInt} {
		wantNetRefused(t, impl.Net{Homes: []int{0, 2}, Far: far})
		wantNetRefused(t, impl.Net{Homes: []int{0, 0}, Far: far})
	}
}

func TestGoodNetChecksTheNumberOfLetters(t *testing.T) {
	for n := range mostUnder + 1 {
		wantGoodNet(t, netAt(0, manyLetters(n)...), true)
	}
	for _, n := range []int{mostUnder + 1, mostUnder + 2, 256, 257} {
		wantNetRefused(t, netAt(0, manyLetters(n)...))
	}
}

func TestGoodNetChecksTheOrderOfTheLetters(t *testing.T) {
	for _, times := range [][]int{{5, 5}, {4, 5}, {0, 0, 0, 0}, {1, 2, 3, 3, 4}, {lastDue, lastDue}, {0, lastDue}} {
		wantGoodNet(t, netAt(3, dueAt(times...)...), true)
	}
	for _, times := range [][]int{{5, 4}, {1, 0}, {1, 2, 1}, {2, 1, 1}, {1, 2, 3, 2, 4}, {1, 3, 2, 4, 5}, {lastDue, 0}, {0, lastDue, lastDue - 1}} {
		wantNetRefused(t, netAt(3, dueAt(times...)...))
	}
}

func TestGoodNetChecksEveryLetter(t *testing.T) {
	full := make([]impl.Letter, mostUnder)
	for i := range full {
		full[i] = letter(2, 1, 50, "y")
	}
	for at := range full {
		for _, x := range spoiltLetters() {
			spoilt := slices.Clone(full)
			spoilt[at] = x
			wantGoodNet(t, netAt(0, spoilt...), false)
		}
	}
	wantGoodNet(t, netAt(0, full...), true)
}

func TestGoodNetChecksTheNodesOfALetter(t *testing.T) {
	for nodes := 1; nodes <= mostNodes; nodes++ {
		for from := -1; from <= mostNodes; from++ {
			for to := -1; to <= mostNodes; to++ {
				n := impl.Net{Homes: make([]int, nodes), Under: letters(letter(from, to, 1, "x"))}
				wantGoodNet(t, n, from != to && isWithin(from, 0, nodes-1) && isWithin(to, 0, nodes-1))
			}
		}
	}
}

func TestGoodNetChecksTheBodyOfALetter(t *testing.T) {
	for n := range mostBody + 3 {
		wantGoodNet(t, netAt(0, letter(0, 1, 1, strings.Repeat("x", n))), isWithin(n, 1, mostBody))
	}
	// The limit is one of bytes, and any bytes are allowed.
	wantGoodNet(t, netAt(0, letter(0, 1, 1, strings.Repeat("\u00e9", mostBody/2))), true)
	wantGoodNet(t, netAt(0, letter(0, 1, 1, strings.Repeat("\u00e9", mostBody/2)+"x")), false)
	for c := range 256 {
		wantGoodNet(t, netAt(0, letter(0, 1, 1, string([]byte{byte(c)}))), true)
	}
}

func TestNewNet(t *testing.T) {
	for _, homes := range [][]int{{0}, {1}, {2}, {0, 2, 0}, {2, 2}, {0, 1, 2, 1, 0}, make([]int, mostNodes)} {
		for _, far := range []int{0, 1, 5, mostFar - 1, mostFar} {
			wantNewNet(t, homes, far, impl.Net{Homes: homes, Far: far}, true)
		}
		for _, far := range []int{math.MinInt, -1, mostFar + 1, math.MaxInt} {
			wantNewNet(t, homes, far, impl.Net{}, false)
		}
	}
	for _, homes := range [][]int{nil, {}, {-1}, {3}, {0, 1, 3}, {0, -1, 0}, {0, 0, 0, 0, math.MaxInt}, make([]int, mostNodes+1), make([]int, 1000)} {
		wantNewNet(t, homes, 5, impl.Net{}, false)
	}
}

func TestTripOf(t *testing.T) {
	n := impl.Net{Homes: []int{0, 1, 2, 2, 1}, Far: 7}
	trips := [][]int{{1, 8, 15, 15, 8}, {8, 1, 8, 8, 1}, {15, 8, 1, 1, 8}, {15, 8, 1, 1, 8}, {8, 1, 8, 8, 1}}
	for from, row := range trips {
		for to, trip := range row {
			wantTrip(t, n, from, to, trip, true)
		}
	}
	for far, trip := range []int{0: 1, 1: 3, 5: 11, mostFar: 41} {
		if trip > 0 {
			wantTrip(t, impl.Net{Homes: []int{0, 2}, Far: far}, 0, 1, trip, true)
			wantTrip(t, impl.Net{Homes: []int{2, 0}, Far: far}, 0, 1, trip, true)
			wantTrip(t, impl.Net{Homes: []int{2, 0}, Far: far}, 1, 1, 1, true)
		}
	}
	wantTrip(t, impl.Net{Homes: []int{2}, Far: mostFar}, 0, 0, 1, true)
	wantTrip(t, netAt(lastTrue, manyLetters(mostUnder)...), 0, 1, 11, true)
}

func TestTripOfChecksTheNodes(t *testing.T) {
	for _, n := range goodNets() {
		for node := range n.Homes {
			for _, absent := range []int{math.MinInt, -2, -1, len(n.Homes), len(n.Homes) + 1, 256, 1 << 32, math.MaxInt} {
				wantTrip(t, n, node, absent, 0, false)
				wantTrip(t, n, absent, node, 0, false)
				wantTrip(t, n, absent, absent, 0, false)
			}
		}
	}
}

func TestLettersOfTheExample(t *testing.T) {
	n, ok := impl.NewNet([]int{0, 2, 0}, 5)
	wantNet(t, n, ok, netAt(0), true, "NewNet")
	wantTrip(t, n, 0, 1, 11, true)
	wantTrip(t, n, 0, 2, 1, true)
	n = mustSend(t, n, 0, 1, "far")
	n = mustSend(t, n, 0, 2, "near")
	n = mustSend(t, n, 2, 0, "back")
	near, back, far := letter(0, 2, 1, "near"), letter(2, 0, 1, "back"), letter(0, 1, 11, "far")
	wantNet(t, n, true, netAt(0, near, back, far), true, "the net with the sent letters")
	wantDeliver(t, n, n, nil, true)
	wantDeliver(t, mustTick(t, n, 1), netAt(1, far), letters(near, back), true)
	wantDeliver(t, mustTick(t, n, 10), netAt(10, far), letters(near, back), true)
	wantDeliver(t, mustTick(t, n, 11), netAt(11), letters(near, back, far), true)
}

func TestSendToPutsTheLetterBehindThoseDueAtItsTime(t *testing.T) {
	x := letter(0, 2, 8, "x") // sent at 7
	for _, at := range []struct {
		times []int
		place int
	}{
		{nil, 0}, {[]int{7}, 1}, {[]int{8}, 1}, {[]int{9}, 0}, {[]int{8, 8, 8}, 3}, {[]int{0, 7, 8, 9}, 3}, {[]int{0, 0}, 2},
		{[]int{9, 9}, 0}, {[]int{1, 7, 7, 9, 9}, 3}, {[]int{8, 8, 9, 9}, 2}, {[]int{7, 8, lastDue}, 2}, {[]int{lastTrue, lastDue}, 0},
	} {
		before := dueAt(at.times...)
		wantSend(t, netAt(7, before...), 0, 2, "x", netAt(7, slices.Insert(slices.Clone(before), at.place, x)...), true)
	}
}

func TestSendToChecksTheNodes(t *testing.T) {
	for _, n := range goodNets() {
		for node := range n.Homes {
			wantSend(t, n, node, node, "x", impl.Net{}, false)
			for _, absent := range []int{math.MinInt, -2, -1, len(n.Homes), len(n.Homes) + 1, 256, 1 << 32, math.MaxInt} {
				wantSend(t, n, node, absent, "x", impl.Net{}, false)
				wantSend(t, n, absent, node, "x", impl.Net{}, false)
				wantSend(t, n, absent, absent, "x", impl.Net{}, false)
			}
		}
	}
}

func TestSendToChecksTheBody(t *testing.T) {
	for n := 1; n <= mostBody; n++ {
		body := strings.Repeat("b", n)
		wantSend(t, netAt(3), 1, 2, body, netAt(3, letter(1, 2, 14, body)), true)
	}
	for _, n := range []int{0, mostBody + 1, mostBody + 2, 256, 257, 50000} {
		wantSend(t, netAt(3), 1, 2, strings.Repeat("b", n), impl.Net{}, false)
	}
	for c := range 256 {
		body := string([]byte{byte(c)})
		wantSend(t, netAt(3), 0, 2, body, netAt(3, letter(0, 2, 4, body)), true)
	}
}

func TestSendToChecksTheNumberOfLetters(t *testing.T) {
	n := netAt(99)
	for i := range mostUnder {
		n = mustSend(t, n, 0, 2, fmt.Sprint(i))
		if len(n.Under) != i+1 || n.Under[i] != letter(0, 2, 100, fmt.Sprint(i)) {
			t.Fatalf("after %d letters there are %s", i+1, short(n.Under))
		}
	}
	for _, full := range []impl.Net{n, netAt(0, manyLetters(mostUnder)...), netAt(lastTrue, manyLetters(mostUnder)...)} {
		wantSend(t, full, 0, 2, "x", impl.Net{}, false)
		wantSend(t, full, 0, 1, "x", impl.Net{}, false)
		less, ok := impl.LoseOne(full, 30)
		if !ok || len(mustSend(t, less, 0, 2, "x").Under) != mostUnder {
			t.Error("a lost letter makes no room")
		}
	}
	wantSend(t, netAt(0, manyLetters(mostUnder-1)...), 0, 2, "x", netAt(0, append(letters(letter(0, 2, 1, "x")), manyLetters(mostUnder-1)...)...), true)
}

// TestTheLatestLetterThatIsSent cannot meet the last Due: a trip takes at most 41 steps.
func TestTheLatestLetterThatIsSent(t *testing.T) {
	n := impl.Net{Now: lastTrue, Homes: []int{0, 2}, Far: mostFar}
	x := letter(0, 1, lastTrue+41, "x")
	wantSend(t, n, 0, 1, "x", with(n, letters(x)), true)
	last := letters(letter(1, 0, lastDue, "a"), letter(0, 1, lastDue, "b"))
	wantSend(t, with(n, last), 0, 1, "x", with(n, slices.Concat(letters(x), last)), true)
	wantSend(t, with(n, letters(x)), 1, 0, "y", with(n, letters(x, letter(1, 0, lastTrue+41, "y"))), true)
	wantSend(t, netAt(lastTrue), 0, 2, "x", netAt(lastTrue, letter(0, 2, lastTrue+1, "x")), true)
}

func TestLoseOne(t *testing.T) {
	for _, n := range goodNets() {
		for i := range n.Under {
			wantLose(t, n, i, with(n, without(n.Under, i)), true)
		}
		for _, i := range []int{math.MinInt, -2, -1, len(n.Under), len(n.Under) + 1, 1 << 32, math.MaxInt} {
			wantLose(t, n, i, impl.Net{}, false)
		}
	}
	l := dueAt(3, 3, 3)
	wantLose(t, netAt(2, l...), 0, netAt(2, l[1], l[2]), true)
	wantLose(t, netAt(2, l...), 1, netAt(2, l[0], l[2]), true)
	wantLose(t, netAt(2, l...), 2, netAt(2, l[0], l[1]), true)
	wantLose(t, netAt(2, l[:1]...), 0, netAt(2), true)
	wantLose(t, netAt(2), 0, impl.Net{}, false)
}

func TestDoubleOne(t *testing.T) {
	l := dueAt(3, 3, 4, 5, 5)
	n := netAt(9, l...)
	wantDouble(t, n, 0, netAt(9, l[0], l[1], l[0], l[2], l[3], l[4]), true)
	wantDouble(t, n, 1, netAt(9, l[0], l[1], l[1], l[2], l[3], l[4]), true)
	wantDouble(t, n, 2, netAt(9, l[0], l[1], l[2], l[2], l[3], l[4]), true)
	wantDouble(t, n, 3, netAt(9, l[0], l[1], l[2], l[3], l[4], l[3]), true)
	wantDouble(t, n, 4, netAt(9, l[0], l[1], l[2], l[3], l[4], l[4]), true)
	last := dueAt(0, lastDue)
	wantDouble(t, netAt(0, last...), 0, netAt(0, last[0], last[0], last[1]), true)
	wantDouble(t, netAt(0, last...), 1, netAt(0, last[0], last[1], last[1]), true)
	for _, n := range goodNets() {
		for _, i := range []int{math.MinInt, -2, -1, len(n.Under), len(n.Under) + 1, 1 << 32, math.MaxInt} {
			wantDouble(t, n, i, impl.Net{}, false)
		}
	}
}

func TestDoubleOneChecksTheNumberOfLetters(t *testing.T) {
	full, most := netAt(0, manyLetters(mostUnder)...), netAt(0, manyLetters(mostUnder-1)...)
	for i := range mostUnder - 1 {
		wantDouble(t, full, i, impl.Net{}, false)
		wantDouble(t, most, i, with(most, modelPut(most.Under, most.Under[i])), true)
	}
	wantDouble(t, full, mostUnder-1, impl.Net{}, false)
	wantDouble(t, most, mostUnder-1, impl.Net{}, false)
}

func later(l impl.Letter, by int) impl.Letter {
	l.Due += by
	return l
}

func TestDelayOne(t *testing.T) {
	l := dueAt(3, 3, 4, 5, 5, 8)
	n := netAt(9, l...)
	for _, x := range []struct {
		i, by int
		want  []impl.Letter
	}{
		{0, 1, letters(l[1], l[2], later(l[0], 1), l[3], l[4], l[5])},
		{1, 1, letters(l[0], l[2], later(l[1], 1), l[3], l[4], l[5])},
		{0, 2, letters(l[1], l[2], l[3], l[4], later(l[0], 2), l[5])},
		{0, 4, letters(l[1], l[2], l[3], l[4], later(l[0], 4), l[5])},
		{0, 5, letters(l[1], l[2], l[3], l[4], l[5], later(l[0], 5))},
		{2, 1, letters(l[0], l[1], l[3], l[4], later(l[2], 1), l[5])},
		{3, 1, letters(l[0], l[1], l[2], l[4], later(l[3], 1), l[5])},
		{4, 2, letters(l[0], l[1], l[2], l[3], later(l[4], 2), l[5])},
		{4, 3, letters(l[0], l[1], l[2], l[3], l[5], later(l[4], 3))},
		{5, 1, letters(l[0], l[1], l[2], l[3], l[4], later(l[5], 1))},
		{0, mostLate, letters(l[1], l[2], l[3], l[4], l[5], later(l[0], mostLate))},
		{5, mostLate, letters(l[0], l[1], l[2], l[3], l[4], later(l[5], mostLate))},
	} {
		wantDelay(t, n, x.i, x.by, netAt(9, x.want...), true)
	}
}

func TestDelayOneChecksTheDelay(t *testing.T) {
	for by := 1; by <= mostLate; by++ {
		wantDelay(t, netAt(0, dueAt(7)...), 0, by, netAt(0, dueAt(7+by)...), true)
	}
	for _, by := range []int{math.MinInt, -mostLate, -2, -1, 0, mostLate + 1, mostLate + 2, 256, 1 << 32, 1<<32 + 1, math.MaxInt} {
		wantDelay(t, netAt(0, dueAt(7)...), 0, by, impl.Net{}, false)
		wantDelay(t, netAt(0, dueAt(70, 80, 90)...), 1, by, impl.Net{}, false)
	}
}

func TestDelayOneChecksTheIndex(t *testing.T) {
	for _, n := range goodNets() {
		for _, i := range []int{math.MinInt, -2, -1, len(n.Under), len(n.Under) + 1, 1 << 32, math.MaxInt} {
			wantDelay(t, n, i, 1, impl.Net{}, false)
			wantDelay(t, n, i, mostLate, impl.Net{}, false)
		}
	}
}

func TestDelayOneChecksTheLastDue(t *testing.T) {
	for _, before := range []int{1, 2, 10, mostLate - 1, mostLate} {
		n := netAt(lastTrue, dueAt(5, lastDue-before, lastDue)...)
		l := n.Under
		wantDelay(t, n, 1, before, netAt(lastTrue, l[0], l[2], later(l[1], before)), true)
		wantDelay(t, n, 1, before+1, impl.Net{}, false)
		wantDelay(t, n, 2, before, impl.Net{}, false)
		wantDelay(t, n, 2, 1, impl.Net{}, false)
	}
}

func TestDelayOneNeedsNoRoom(t *testing.T) {
	full := netAt(0, manyLetters(mostUnder)...)
	for i := range full.Under {
		for _, by := range []int{1, 2, 29, mostLate} {
			wantDelay(t, full, i, by, with(full, modelPut(without(full.Under, i), later(full.Under[i], by))), true)
		}
	}
}

func TestDeliver(t *testing.T) {
	for _, x := range []struct {
		now   int
		times []int
		come  int
	}{
		{7, nil, 0}, {7, []int{7}, 1}, {7, []int{6}, 1}, {7, []int{8}, 0}, {7, []int{6, 7, 8}, 2}, {7, []int{0, 0, 7, 7, 7}, 5}, {7, []int{7, 7, 8, 8}, 2},
		{7, []int{8, 8}, 0}, {0, []int{0, 0, 1}, 2}, {0, []int{1}, 0}, {lastTrue, []int{0, lastTrue - 1, lastTrue, lastTrue + 1, lastDue}, 3},
		{lastTrue, []int{lastTrue + 1, lastDue}, 0}, {lastTrue - 1, []int{lastTrue - 1, lastTrue}, 1}, {7, []int{70000, lastDue}, 0},
	} {
		l := dueAt(x.times...)
		wantDeliver(t, netAt(x.now, l...), netAt(x.now, l[x.come:]...), l[:x.come], true)
		wantDeliver(t, netAt(x.now, l[x.come:]...), netAt(x.now, l[x.come:]...), nil, true)
	}
}

func TestDeliverLettersOfAFullNet(t *testing.T) {
	l := manyLetters(mostUnder)
	for now := 98; now <= 131; now++ {
		come := min(max(2*(now-99), 0), mostUnder)
		wantDeliver(t, netAt(now, l...), netAt(now, l[come:]...), l[:come], true)
	}
	wantDeliver(t, netAt(0, l...), netAt(0, l...), nil, true)
	wantDeliver(t, netAt(lastTrue, l...), netAt(lastTrue), l, true)
}

func TestTickNet(t *testing.T) {
	for _, now := range []int{0, 1, 255, 50000, lastTrue - 2, lastTrue - 1} {
		wantTick(t, netAt(now), netAt(now+1), true)
		l := dueAt(0, 0, 1, now+1, now+2, lastDue)
		slices.SortStableFunc(l, byDue)
		wantTick(t, netAt(now, l...), netAt(now+1, l...), true)
	}
	full := manyLetters(mostUnder)
	wantTick(t, netAt(lastTrue-1, full...), netAt(lastTrue, full...), true)
	wantTick(t, netAt(lastTrue, full...), impl.Net{}, false)
	wantTick(t, netAt(lastTrue), impl.Net{}, false)
	wantTick(t, netAt(lastTrue, dueAt(lastDue)...), impl.Net{}, false)
}

// TestTwoLettersDueAtTheSameTime has the last letter that is sent, doubled or delayed delivered last.
func TestTwoLettersDueAtTheSameTime(t *testing.T) {
	first, second := letter(0, 2, 12, "first"), letter(1, 0, 12, "second")
	for _, x := range []struct {
		name string
		do   func(n impl.Net) (impl.Net, bool)
		come []impl.Letter
	}{
		{"sent", func(n impl.Net) (impl.Net, bool) { return impl.SendTo(mustTick(t, n, 11), 2, 0, "x") }, letters(first, second, letter(2, 0, 12, "x"))},
		{"sent from afar", func(n impl.Net) (impl.Net, bool) { return impl.SendTo(mustTick(t, n, 1), 2, 1, "x") }, letters(first, second, letter(2, 1, 12, "x"))},
		{"the first doubled", func(n impl.Net) (impl.Net, bool) { return impl.DoubleOne(n, 1) }, letters(first, second, first)},
		{"the second doubled", func(n impl.Net) (impl.Net, bool) { return impl.DoubleOne(n, 2) }, letters(first, second, second)},
		{"delayed to this time", func(n impl.Net) (impl.Net, bool) { return impl.DelayOne(n, 0, 11) }, letters(first, second, letter(2, 1, 12, "early"))},
		{"the first delayed", func(n impl.Net) (impl.Net, bool) { return impl.DelayOne(n, 1, 1) }, letters(second)},
		{"the second delayed", func(n impl.Net) (impl.Net, bool) { return impl.DelayOne(n, 2, 1) }, letters(first)},
		{"the first lost", func(n impl.Net) (impl.Net, bool) { return impl.LoseOne(n, 1) }, letters(second)},
		{"the second lost", func(n impl.Net) (impl.Net, bool) { return impl.LoseOne(n, 2) }, letters(first)},
	} {
		n, ok := x.do(netAt(0, letter(2, 1, 1, "early"), first, second, letter(1, 2, 13, "late")))
		if !ok {
			t.Fatalf("%s: it fails", x.name)
		}
		n = mustTick(t, n, 12-n.Now)
		_, come, ok := impl.Deliver(n)
		come = slices.DeleteFunc(come, func(l impl.Letter) bool { return l.Due < 12 })
		if !ok || !slices.Equal(come, x.come) {
			t.Errorf("%s: %s come; want %s", x.name, short(come), short(x.come))
		}
	}
}

func TestDoubledAndDelayedLettersOfOneTimeTakeTurns(t *testing.T) {
	l := dueAt(5, 5, 5)
	n := netAt(0, l...)
	for _, i := range []int{0, 0, 0} {
		n, _ = impl.DelayOne(n, i, 2)
	}
	n, _ = impl.DoubleOne(n, 1)
	n, _ = impl.DoubleOne(n, 0)
	a, b, c := later(l[0], 2), later(l[1], 2), later(l[2], 2)
	wantNet(t, n, true, netAt(0, a, b, c, b, a), true, "the net with letters due at 7")
	n, _ = impl.DelayOne(n, 2, 1)
	wantDeliver(t, mustTick(t, n, 7), netAt(7, later(c, 1)), letters(a, b, b, a), true)
	wantDeliver(t, mustTick(t, n, 6), with(netAt(6), n.Under), nil, true)
}

// randomNet has no letters yet; its time is early or close to the last one.
func randomNet(r *rand.Rand, now int) impl.Net {
	n := impl.Net{Now: now, Homes: make([]int, 2+r.IntN(mostNodes-1)), Far: r.IntN(mostFar + 1)}
	for i := range n.Homes {
		n.Homes[i] = r.IntN(lastHome + 1)
	}
	return n
}

// TestNetsAgreeWithTheModel does anything in any order, refused calls included.
func TestNetsAgreeWithTheModel(t *testing.T) {
	r := rand.New(rand.NewPCG(71, 71))
	for run := range 200 {
		n := randomNet(r, []int{0, lastTrue - 40, lastTrue}[run%3])
		for step := range 150 {
			next, ok, i, by := n, false, r.IntN(len(n.Under)+2)-1, r.IntN(mostLate+3)-1
			switch r.IntN(11) {
			case 0, 1, 2, 3, 4:
				from, to, body := r.IntN(len(n.Homes)+1), r.IntN(len(n.Homes)), fmt.Sprint(run, "-", step)
				next, ok = modelSend(n, from, to, body)
				wantSend(t, n, from, to, body, next, ok)
			case 5:
				next, ok = modelLose(n, i)
				wantLose(t, n, i, next, ok)
			case 6, 7:
				next, ok = modelDouble(n, i)
				wantDouble(t, n, i, next, ok)
			case 8:
				next, ok = modelDelay(n, i, by)
				wantDelay(t, n, i, by, next, ok)
			case 9:
				next, ok = modelTick(n)
				wantTick(t, n, next, ok)
			case 10:
				var come []impl.Letter
				next, come, ok = modelDeliver(n)
				wantDeliver(t, n, next, come, ok)
			}
			if ok {
				n = next
			}
			wantGoodNet(t, n, true)
		}
	}
}

// A posting is what a test has sent: the first time at which the letter is due, and how many copies are not delivered yet.
type posting struct {
	from   int
	to     int
	due    int
	copies int
}

// checkDelivery takes the letters out of the book.
func checkDelivery(t *testing.T, book map[string]*posting, now int, come []impl.Letter) {
	t.Helper()
	for _, l := range come {
		p := book[l.Body]
		if p == nil || p.copies == 0 || l.From != p.from || l.To != p.to {
			t.Fatalf("at %d %v is delivered, which was not sent", now, l)
		}
		if l.Due > now || l.Due < p.due {
			t.Fatalf("at %d %v is delivered, which is not due before %d", now, l, p.due)
		}
		p.copies--
	}
	if !slices.IsSortedFunc(come, byDue) {
		t.Fatalf("at %d %s are delivered, which are not in order", now, short(come))
	}
}

func TestOnlySentLettersAreDeliveredAndNoneBeforeItIsDue(t *testing.T) {
	r := rand.New(rand.NewPCG(72, 72))
	for range 60 {
		n, book := randomNet(r, r.IntN(100)), map[string]*posting{}
		for step := range 600 {
			before, ok := n, true
			i := r.IntN(len(n.Under) + 1)
			switch r.IntN(8) {
			case 0, 1, 2:
				from, to, body := r.IntN(len(n.Homes)), r.IntN(len(n.Homes)), fmt.Sprint("letter ", step)
				if n, ok = impl.SendTo(n, from, to, body); ok {
					trip, _ := modelTrip(n, from, to)
					book[body] = &posting{from, to, n.Now + trip, 1}
				}
			case 3:
				if n, ok = impl.LoseOne(n, i); ok {
					book[before.Under[i].Body].copies--
				}
			case 4:
				if n, ok = impl.DoubleOne(n, i); ok {
					book[before.Under[i].Body].copies++
				}
			case 5:
				n, ok = impl.DelayOne(n, i, 1+r.IntN(mostLate))
			case 6:
				n = mustTick(t, n, 1)
			case 7:
				var come []impl.Letter
				n, come, ok = impl.Deliver(n)
				checkDelivery(t, book, n.Now, come)
			}
			if !ok {
				n = before
			}
		}
		deliverAll(t, n, book)
	}
}

// deliverAll waits for all letters, and checks that none is missing in the end.
func deliverAll(t *testing.T, n impl.Net, book map[string]*posting) {
	t.Helper()
	for len(n.Under) > 0 {
		next, come, ok := impl.Deliver(mustTick(t, n, 1))
		if !ok {
			t.Fatal("Deliver fails")
		}
		checkDelivery(t, book, next.Now, come)
		n = next
	}
	for body, p := range book {
		if p.copies != 0 {
			t.Fatalf("%d copies of %q are not delivered", p.copies, body)
		}
	}
}

// TestLettersOnOneWayKeepTheirOrder has no delays, so that a letter never overtakes an earlier one.
func TestLettersOnOneWayKeepTheirOrder(t *testing.T) {
	r := rand.New(rand.NewPCG(73, 73))
	for range 20 {
		n := randomNet(r, 0)
		last := map[[2]int]int{}
		for number := 1; number < 400; number++ {
			if from, to := r.IntN(len(n.Homes)), r.IntN(len(n.Homes)); from != to && len(n.Under) < mostUnder {
				n = mustSend(t, n, from, to, fmt.Sprint(number))
			}
			if r.IntN(3) > 0 {
				continue
			}
			next, come, _ := impl.Deliver(mustTick(t, n, 1))
			for _, l := range come {
				number := 0
				fmt.Sscan(l.Body, &number)
				if way := [2]int{l.From, l.To}; number <= last[way] {
					t.Fatalf("letter %d comes after letter %d", number, last[way])
				} else {
					last[way] = number
				}
			}
			n = next
		}
	}
}
