package tests

import (
	"slices"
	"testing"

	"loop.example/g00850/impl"
)

// The limits are written out, so that a changed constant of the program is noticed.
const (
	farthestOff = 5
	lastTrue    = 100000
	leastLow    = -10
	mostHigh    = 100010
	leastAsked  = -100
	mostAsked   = 100100
	mostSpans   = 20
)

func span(low int, high int) impl.Span {
	return impl.Span{Low: low, High: high}
}

func clock(off int) impl.Clock {
	return impl.Clock{Off: off}
}

// goodSpans meets the limits exactly, and has spans of one point, of two and of many.
func goodSpans() []impl.Span {
	return []impl.Span{
		span(leastLow, mostHigh), span(leastLow, leastLow), span(mostHigh, mostHigh), span(leastLow, leastLow+1),
		span(mostHigh-1, mostHigh), span(0, 0), span(-3, -1), span(-1, 0), span(0, lastTrue), span(lastTrue, lastTrue),
		span(97, 107), span(97, 97), span(107, 107), span(108, 110), span(96, 98), span(50000, 50010),
	}
}

// badSpans exceeds each limit by one, and more.
func badSpans() []impl.Span {
	return []impl.Span{
		span(leastLow-1, 0), span(leastLow-1, leastLow-1), span(leastLow-1, mostHigh), span(0, mostHigh+1),
		span(mostHigh+1, mostHigh+1), span(leastLow, mostHigh+1), span(leastLow-1, mostHigh+1), span(1, 0), span(0, -1),
		span(98, 97), span(mostHigh, leastLow), span(mostHigh+1, mostHigh), span(leastLow, leastLow-1),
	}
}

func wantSpanAt(t *testing.T, c impl.Clock, now int, s impl.Span, ok bool) {
	t.Helper()
	if gotS, gotOK := impl.SpanAt(c, now); gotS != s || gotOK != ok {
		t.Errorf("SpanAt(%v, %d) = %v, %v; want %v, %v", c, now, gotS, gotOK, s, ok)
	}
}

func wantIsPast(t *testing.T, s impl.Span, at int, is bool, ok bool) {
	t.Helper()
	if gotIs, gotOK := impl.IsPast(s, at); gotIs != is || gotOK != ok {
		t.Errorf("IsPast(%v, %d) = %v, %v; want %v, %v", s, at, gotIs, gotOK, is, ok)
	}
}

func wantIsAhead(t *testing.T, s impl.Span, at int, is bool, ok bool) {
	t.Helper()
	if gotIs, gotOK := impl.IsAhead(s, at); gotIs != is || gotOK != ok {
		t.Errorf("IsAhead(%v, %d) = %v, %v; want %v, %v", s, at, gotIs, gotOK, is, ok)
	}
}

func wantSurelyAfter(t *testing.T, a impl.Span, b impl.Span, is bool, ok bool) {
	t.Helper()
	if gotIs, gotOK := impl.SurelyAfter(a, b); gotIs != is || gotOK != ok {
		t.Errorf("SurelyAfter(%v, %v) = %v, %v; want %v, %v", a, b, gotIs, gotOK, is, ok)
	}
}

func wantMeetSpans(t *testing.T, l []impl.Span, s impl.Span, ok bool) {
	t.Helper()
	if gotS, gotOK := impl.MeetSpans(l); gotS != s || gotOK != ok {
		t.Errorf("MeetSpans(%v) = %v, %v; want %v, %v", l, gotS, gotOK, s, ok)
	}
}

func wantMoveSpan(t *testing.T, s impl.Span, by int, moved impl.Span, ok bool) {
	t.Helper()
	if gotS, gotOK := impl.MoveSpan(s, by); gotS != moved || gotOK != ok {
		t.Errorf("MoveSpan(%v, %d) = %v, %v; want %v, %v", s, by, gotS, gotOK, moved, ok)
	}
}

func wantWaitFor(t *testing.T, c impl.Clock, now int, at int, n int, ok bool) {
	t.Helper()
	if gotN, gotOK := impl.WaitFor(c, now, at); gotN != n || gotOK != ok {
		t.Errorf("WaitFor(%v, %d, %d) = %d, %v; want %d, %v", c, now, at, gotN, gotOK, n, ok)
	}
}

func TestGoodSpan(t *testing.T) {
	for _, s := range goodSpans() {
		if !impl.GoodSpan(s) {
			t.Errorf("GoodSpan(%v) is false", s)
		}
	}
	for _, s := range badSpans() {
		if impl.GoodSpan(s) {
			t.Errorf("GoodSpan(%v) is true", s)
		}
	}
}

func TestGoodClock(t *testing.T) {
	for off := -20; off <= 20; off++ {
		if good := impl.GoodClock(clock(off)); good != (off >= -farthestOff && off <= farthestOff) {
			t.Errorf("GoodClock of the offset %d is %v", off, good)
		}
	}
}

func TestTheTrueTimeLiesInEveryInterval(t *testing.T) {
	for off := -farthestOff; off <= farthestOff; off++ {
		for now := range lastTrue + 1 {
			s, ok := impl.SpanAt(clock(off), now)
			if !ok || s.Low > now || s.High < now {
				t.Fatalf("SpanAt of the offset %d at %d = %v, %v", off, now, s, ok)
			}
			if s != span(now+off-5, now+off+5) || !impl.GoodSpan(s) {
				t.Fatalf("SpanAt of the offset %d at %d = %v", off, now, s)
			}
		}
	}
}

func TestSpanAt(t *testing.T) {
	wantSpanAt(t, clock(2), 100, span(97, 107), true)
	wantSpanAt(t, clock(0), 0, span(-5, 5), true)
	wantSpanAt(t, clock(-5), 0, span(leastLow, 0), true)
	wantSpanAt(t, clock(5), 0, span(0, 10), true)
	wantSpanAt(t, clock(-5), lastTrue, span(lastTrue-10, lastTrue), true)
	wantSpanAt(t, clock(5), lastTrue, span(lastTrue, mostHigh), true)
}

func TestSpanAtChecksItsArguments(t *testing.T) {
	for _, off := range []int{-6, 6, -7, 7, 100} {
		wantSpanAt(t, clock(off), 100, span(0, 0), false)
	}
	for _, now := range []int{-1, -5, lastTrue + 1, lastTrue + 5} {
		for _, off := range []int{-5, 0, 5} {
			wantSpanAt(t, clock(off), now, span(0, 0), false)
		}
	}
}

func TestIsPastAndIsAheadExcludeTheEnds(t *testing.T) {
	for _, s := range goodSpans() {
		for _, end := range []int{s.Low, s.High} {
			for at := end - 2; at <= end+2; at++ {
				wantIsPast(t, s, at, at < s.Low, true)
				wantIsAhead(t, s, at, at > s.High, true)
			}
		}
	}
	wantIsPast(t, span(97, 107), 96, true, true)
	wantIsPast(t, span(97, 107), 97, false, true)
	wantIsPast(t, span(97, 107), 107, false, true)
	wantIsPast(t, span(97, 107), 108, false, true)
	wantIsAhead(t, span(97, 107), 108, true, true)
	wantIsAhead(t, span(97, 107), 107, false, true)
	wantIsAhead(t, span(97, 107), 97, false, true)
	wantIsAhead(t, span(97, 107), 96, false, true)
}

func TestIsPastAndIsAheadCheckTheirArguments(t *testing.T) {
	for _, s := range goodSpans() {
		wantIsPast(t, s, leastAsked, true, true)
		wantIsAhead(t, s, leastAsked, false, true)
		wantIsPast(t, s, mostAsked, false, true)
		wantIsAhead(t, s, mostAsked, true, true)
		for _, at := range []int{leastAsked - 1, mostAsked + 1} {
			wantIsPast(t, s, at, false, false)
			wantIsAhead(t, s, at, false, false)
		}
	}
	for _, s := range badSpans() {
		for _, at := range []int{leastAsked, 0, 97, mostAsked} {
			wantIsPast(t, s, at, false, false)
			wantIsAhead(t, s, at, false, false)
		}
	}
}

// TestWhatIsPastOrAheadAgreesWithTheTrueTime states the promise as a reader of a clock uses it.
func TestWhatIsPastOrAheadAgreesWithTheTrueTime(t *testing.T) {
	for off := -farthestOff; off <= farthestOff; off++ {
		for _, now := range []int{0, 1, 9, 100, lastTrue - 1, lastTrue} {
			s, _ := impl.SpanAt(clock(off), now)
			for at := now - 20; at <= now+20; at++ {
				past, ok := impl.IsPast(s, at)
				ahead, alsoOK := impl.IsAhead(s, at)
				if !ok || !alsoOK || past && at >= now || ahead && at <= now {
					t.Errorf("%d at the true time %d: past %v, ahead %v", at, now, past, ahead)
				}
			}
		}
	}
}

func TestSurelyAfter(t *testing.T) {
	wantSurelyAfter(t, span(108, 110), span(97, 107), true, true)
	wantSurelyAfter(t, span(107, 110), span(97, 107), false, true) // the spans touch
	wantSurelyAfter(t, span(97, 107), span(108, 110), false, true)
	wantSurelyAfter(t, span(100, 200), span(97, 107), false, true)
	wantSurelyAfter(t, span(mostHigh, mostHigh), span(leastLow, mostHigh-1), true, true)
	for _, a := range goodSpans() {
		for _, b := range goodSpans() {
			wantSurelyAfter(t, a, b, a.Low > b.High, true)
		}
		for _, b := range badSpans() {
			wantSurelyAfter(t, a, b, false, false)
			wantSurelyAfter(t, b, a, false, false)
		}
	}
}

func TestMeetSpans(t *testing.T) {
	wantMeetSpans(t, []impl.Span{span(97, 107), span(90, 99)}, span(97, 99), true)
	wantMeetSpans(t, []impl.Span{span(90, 99), span(97, 107)}, span(97, 99), true)
	wantMeetSpans(t, []impl.Span{span(0, 100), span(40, 50)}, span(40, 50), true)
	wantMeetSpans(t, []impl.Span{span(40, 50), span(0, 100)}, span(40, 50), true)
	wantMeetSpans(t, []impl.Span{span(0, 60), span(20, 100), span(30, 50)}, span(30, 50), true)
	wantMeetSpans(t, []impl.Span{span(leastLow, 0), span(leastLow, mostHigh)}, span(leastLow, 0), true)
	for _, s := range goodSpans() {
		wantMeetSpans(t, []impl.Span{s}, s, true)
		wantMeetSpans(t, []impl.Span{s, s, s}, s, true)
	}
}

func TestMeetSpansOfSpansThatOnlyTouch(t *testing.T) {
	wantMeetSpans(t, []impl.Span{span(97, 107), span(107, 110)}, span(107, 107), true)
	wantMeetSpans(t, []impl.Span{span(107, 110), span(97, 107)}, span(107, 107), true)
	wantMeetSpans(t, []impl.Span{span(-3, 0), span(-9, 9), span(0, 4)}, span(0, 0), true)
	wantMeetSpans(t, []impl.Span{span(leastLow, 5), span(leastLow, leastLow)}, span(leastLow, leastLow), true)
}

func TestMeetSpansOfSpansThatDoNotMeet(t *testing.T) {
	for _, l := range [][]impl.Span{
		{span(97, 107), span(108, 110)}, {span(108, 110), span(97, 107)}, {span(0, 0), span(1, 1)},
		{span(leastLow, leastLow), span(mostHigh, mostHigh)},
		{span(0, 10), span(5, 20), span(15, 30)}, // each two neighbours meet
		{span(0, 100), span(0, 40), span(60, 100)},
	} {
		wantMeetSpans(t, l, span(0, 0), false)
	}
}

// TestMeetSpansHoldsWhatIsInEverySpan looks at every point of small spans.
func TestMeetSpansHoldsWhatIsInEverySpan(t *testing.T) {
	var small []impl.Span
	for low := -2; low <= 3; low++ {
		for high := low; high <= 3; high++ {
			small = append(small, span(low, high))
		}
	}
	for _, a := range small {
		for _, b := range small {
			for _, c := range small {
				l := []impl.Span{a, b, c}
				var common []int
				for at := -2; at <= 3; at++ {
					if !slices.ContainsFunc(l, func(s impl.Span) bool { return at < s.Low || at > s.High }) {
						common = append(common, at)
					}
				}
				if common == nil {
					wantMeetSpans(t, l, span(0, 0), false)
				} else {
					wantMeetSpans(t, l, span(common[0], common[len(common)-1]), true)
				}
			}
		}
	}
}

func TestMeetSpansChecksTheNumberOfSpans(t *testing.T) {
	wantMeetSpans(t, nil, span(0, 0), false)
	wantMeetSpans(t, []impl.Span{}, span(0, 0), false)
	for _, n := range []int{1, 2, mostSpans - 1, mostSpans} {
		l := slices.Repeat([]impl.Span{span(3, 9)}, n)
		wantMeetSpans(t, l, span(3, 9), true)
		l[n-1] = span(5, 5)
		wantMeetSpans(t, l, span(5, 5), true)
		l[0] = span(5, 7)
		wantMeetSpans(t, l, span(5, 7-2*min(n-1, 1)), true)
	}
	for _, n := range []int{mostSpans + 1, mostSpans + 2, 1000} {
		wantMeetSpans(t, slices.Repeat([]impl.Span{span(3, 9)}, n), span(0, 0), false)
	}
}

func TestMeetSpansRefusesInvalidSpans(t *testing.T) {
	for _, bad := range badSpans() {
		wantMeetSpans(t, []impl.Span{bad}, span(0, 0), false)
		for i := range mostSpans {
			// What the spans have in common would be valid.
			l := slices.Repeat([]impl.Span{span(leastLow, mostHigh)}, mostSpans)
			l[i] = bad
			wantMeetSpans(t, l, span(0, 0), false)
		}
	}
}

func TestMoveSpan(t *testing.T) {
	wantMoveSpan(t, span(97, 107), 10, span(107, 117), true)
	wantMoveSpan(t, span(leastLow, 0), 1, span(-9, 1), true)
	wantMoveSpan(t, span(leastLow, leastLow), lastTrue, span(lastTrue-10, lastTrue-10), true)
	wantMoveSpan(t, span(-5, 5), lastTrue, span(lastTrue-5, lastTrue+5), true)
	wantMoveSpan(t, span(0, 10), lastTrue, span(lastTrue, mostHigh), true)
	for _, s := range goodSpans() {
		wantMoveSpan(t, s, 0, s, true)
	}
}

func TestMoveSpanChecksTheStepAndTheResult(t *testing.T) {
	wantMoveSpan(t, span(1, 11), lastTrue, span(0, 0), false)
	wantMoveSpan(t, span(97, 107), mostHigh-107, span(mostHigh-10, mostHigh), true)
	wantMoveSpan(t, span(97, 107), mostHigh-106, span(0, 0), false)
	wantMoveSpan(t, span(mostHigh, mostHigh), 1, span(0, 0), false)
	wantMoveSpan(t, span(leastLow, mostHigh), 1, span(0, 0), false)
	for _, s := range goodSpans() {
		for _, by := range []int{-1, -10, lastTrue + 1} { // also where the result would be valid
			wantMoveSpan(t, s, by, span(0, 0), false)
		}
	}
	for _, s := range badSpans() {
		for _, by := range []int{0, 1, 20, lastTrue} {
			wantMoveSpan(t, s, by, span(0, 0), false)
		}
	}
}

func TestWaitFor(t *testing.T) {
	wantWaitFor(t, clock(-1), 10, 10, 7, true)
	wantWaitFor(t, clock(0), 0, 0, 6, true)
	wantWaitFor(t, clock(5), 0, 0, 1, true)
	wantWaitFor(t, clock(-5), 0, 0, 11, true)
	wantWaitFor(t, clock(2), 100, 97, 1, true) // the lower end itself is not past
	wantWaitFor(t, clock(2), 100, 96, 0, true)
	wantWaitFor(t, clock(2), 100, 95, 0, true)
	wantWaitFor(t, clock(2), 100, 0, 0, true)
	wantWaitFor(t, clock(0), lastTrue, 0, 0, true)
}

func TestWaitForEndsAtTheLastTrueTime(t *testing.T) {
	for off := -farthestOff; off <= farthestOff; off++ {
		last := lastTrue + off - 6 // the lower end is last+1 at the last true time
		for _, now := range []int{0, 1, 50000, lastTrue - 1, lastTrue} {
			n := max(0, lastTrue-now)
			wantWaitFor(t, clock(off), now, last, n, true)
			wantWaitFor(t, clock(off), now, last+1, 0, false)
			wantWaitFor(t, clock(off), now, lastTrue, 0, false)
		}
	}
}

// TestWaitForCountsTheSteps waits step by step.
func TestWaitForCountsTheSteps(t *testing.T) {
	for off := -farthestOff; off <= farthestOff; off++ {
		for _, start := range []int{0, 40, 9980, lastTrue - 40} {
			for now := start; now <= start+40; now++ {
				for at := start; at <= start+40; at++ {
					n := 0
					for now+n <= lastTrue && at >= now+n+off-farthestOff {
						n++
					}
					ok := now+n <= lastTrue
					if !ok {
						n = 0
					}
					wantWaitFor(t, clock(off), now, at, n, ok)
				}
			}
		}
	}
}

func TestWaitForIsTheLeastTime(t *testing.T) {
	for off := -farthestOff; off <= farthestOff; off++ {
		for at := 0; at < lastTrue; at += 617 {
			for now := 0; now < lastTrue; now += 911 {
				n, ok := impl.WaitFor(clock(off), now, at)
				if !ok {
					continue
				}
				s, _ := impl.SpanAt(clock(off), now+n)
				wantIsPast(t, s, at, true, true)
				if n > 0 {
					s, _ = impl.SpanAt(clock(off), now+n-1)
					wantIsPast(t, s, at, false, true)
				}
			}
		}
	}
}

func TestWaitForChecksItsArguments(t *testing.T) {
	for _, off := range []int{-6, 6} {
		wantWaitFor(t, clock(off), 100, 10, 0, false)
		wantWaitFor(t, clock(off), 10, 100, 0, false)
	}
	for _, out := range []int{-1, -2, lastTrue + 1, lastTrue + 2} {
		for _, in := range []int{0, 100, lastTrue} {
			wantWaitFor(t, clock(5), out, in, 0, false)
			wantWaitFor(t, clock(5), in, out, 0, false)
		}
	}
}
