package tests

import (
	"math"
	"slices"
	"testing"

	"loop.example/g00850/impl"
)

// oddTimes lies around the limits of the chapter, of narrower types and of the type, and where a sum or a difference would wrap.
var oddTimes = []int{
	math.MinInt, math.MinInt + 1, math.MinInt + 5, math.MinInt + 6, math.MinInt + lastTrue, -1 << 62, math.MinInt32 - 1, math.MinInt32,
	-lastTrue, leastAsked - 1, leastAsked, leastLow - 1, leastLow, -6, -5, -1, 0, 1, 5, 6, 97, 107, 50000,
	lastTrue - 6, lastTrue - 5, lastTrue - 1, lastTrue, lastTrue + 1, mostHigh, mostHigh + 1, mostAsked, mostAsked + 1,
	math.MaxInt32, math.MaxInt32 + 1, 1 << 32, 1<<32 + 100, 1 << 62, math.MaxInt - lastTrue, math.MaxInt - 6, math.MaxInt - 5, math.MaxInt - 1, math.MaxInt,
}

func isWithin(n int, low int, high int) bool {
	return n >= low && n <= high
}

func isSpan(s impl.Span) bool {
	return isWithin(s.Low, leastLow, mostHigh) && isWithin(s.High, leastLow, mostHigh) && s.Low <= s.High
}

func oddSpans() []impl.Span {
	l := append(goodSpans(), badSpans()...)
	for _, low := range oddTimes {
		for _, high := range oddTimes {
			l = append(l, span(low, high))
		}
	}
	return l
}

func TestClocksAcceptAllArguments(t *testing.T) {
	for _, off := range oddTimes {
		c := clock(off)
		good := isWithin(off, -farthestOff, farthestOff)
		if impl.GoodClock(c) != good {
			t.Errorf("GoodClock(%v) is %v", c, !good)
		}
		for _, now := range oddTimes {
			if good && isWithin(now, 0, lastTrue) {
				wantSpanAt(t, c, now, span(now+off-5, now+off+5), true)
			} else {
				wantSpanAt(t, c, now, span(0, 0), false)
			}
			for _, at := range oddTimes {
				n, ok := impl.WaitFor(c, now, at)
				mayWait := good && isWithin(now, 0, lastTrue) && isWithin(at, 0, lastTrue) && at < lastTrue+off-5
				if ok != mayWait || !ok && n != 0 || ok && n != max(0, at-now-off+6) {
					t.Errorf("WaitFor(%v, %d, %d) = %d, %v", c, now, at, n, ok)
				}
			}
		}
	}
}

func TestSpansAcceptAllArguments(t *testing.T) {
	for _, s := range oddSpans() {
		good := isSpan(s)
		if impl.GoodSpan(s) != good {
			t.Errorf("GoodSpan(%v) is %v", s, !good)
		}
		meet, moved := span(0, 0), span(0, 0)
		if good {
			meet = s
		}
		wantMeetSpans(t, []impl.Span{s}, meet, good)
		for _, n := range oddTimes {
			asks := good && isWithin(n, leastAsked, mostAsked)
			wantIsPast(t, s, n, asks && n < s.Low, asks)
			wantIsAhead(t, s, n, asks && n > s.High, asks)
			moves := good && isWithin(n, 0, lastTrue) && n <= mostHigh-s.High
			if moved = span(0, 0); moves {
				moved = span(s.Low+n, s.High+n)
			}
			wantMoveSpan(t, s, n, moved, moves)
		}
	}
}

func TestPairsOfSpansAcceptAllArguments(t *testing.T) {
	for _, a := range oddSpans() {
		for _, b := range oddSpans() {
			good := isSpan(a) && isSpan(b)
			wantSurelyAfter(t, a, b, good && a.Low > b.High, good)
			meet, meets := span(max(a.Low, b.Low), min(a.High, b.High)), good && a.Low <= b.High && b.Low <= a.High
			if !meets {
				meet = span(0, 0)
			}
			wantMeetSpans(t, []impl.Span{a, b}, meet, meets)
		}
	}
}

func TestMeetSpansNeitherChangesNorReadsBehindItsArgument(t *testing.T) {
	whole := []impl.Span{span(90, 99), span(97, 107), span(50, 98), span(5, 3), span(200, 300), span(math.MinInt, math.MaxInt)}
	wantOf := []impl.Span{span(0, 0), span(90, 99), span(97, 99), span(97, 98)}
	before := slices.Clone(whole)
	for n := range len(whole) + 1 {
		if n < len(wantOf) {
			wantMeetSpans(t, whole[:n], wantOf[n], n > 0)
		} else {
			wantMeetSpans(t, whole[:n], span(0, 0), false)
		}
		if !slices.Equal(whole, before) {
			t.Fatalf("MeetSpans changed %v to %v", before, whole)
		}
	}
}

func TestSpansDoNotDependOnEarlierCalls(t *testing.T) {
	for range 2 {
		wantSpanAt(t, clock(2), 100, span(97, 107), true)
		wantMeetSpans(t, []impl.Span{span(97, 107), span(90, 99)}, span(97, 99), true)
		wantWaitFor(t, clock(-1), 10, 10, 7, true)
		impl.SpanAt(clock(9), -1)
		impl.MeetSpans([]impl.Span{span(0, 1), span(2, 3)})
		impl.WaitFor(clock(5), lastTrue, lastTrue)
	}
}
