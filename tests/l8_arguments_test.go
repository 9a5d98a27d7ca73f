package tests

import (
	"fmt"
	"math/rand/v2"
	"slices"
	"testing"

	"loop.example/g00850/impl"
)

// oddPolls has valid and invalid polls, around the limits and far from them.
func oddPolls() []impl.Poll {
	three := pollOf(newVoters(3), 0)
	l := append(goodPolls(), badPolls()...)
	l = append(l, impl.Poll{Voters: newVoters(100000), Net: three.Net}, won(three, make([]impl.Won, 100000)...), won(three, manyWins(100000)...))
	l = append(l, withVoter(three, 0, candidate(1, 0, make([]int, 100000)...)), withVoter(three, 0, leader(1, 0, oddNumbers...)))
	for _, x := range append(slices.Clone(oddNumbers), lastVote-1, lastVote, lastVote+1) {
		l = append(l, withVoter(three, 2, up(x, -1)), withVoter(three, 2, down(0, x)), withVoter(three, 2, candidate(3, 2, x)), withVoter(three, 2, candidate(3, 2, 0, x)))
		l = append(l, withVoter(three, 2, leader(3, 2, 0, x)), won(three, win(x, 0)), won(three, win(1, x)), won(three, win(1, 0), win(x, x)))
	}
	for _, n := range oddNets() {
		l = append(l, impl.Poll{Voters: newVoters(3), Net: n}, impl.Poll{Voters: newVoters(min(9, len(n.Homes))), Net: n})
	}
	return l
}

func TestPollsAcceptAllArguments(t *testing.T) {
	for _, p := range oddPolls() {
		if !isPoll(p) {
			wantPollRefused(t, p)
			continue
		}
		wantGoodPoll(t, p, true)
		wantFair(t, p, modelFair(p))
		next, ok := modelTickPoll(p)
		wantTickPoll(t, p, next, ok)
	}
}

func TestVotersAcceptAllArguments(t *testing.T) {
	for _, p := range oddPolls() {
		for _, x := range append(slices.Clone(oddNumbers), lastVote, lastVote+1) {
			next, ok := modelStand(p, x)
			wantStand(t, p, x, next, ok)
			next, ok = modelFallVoter(p, x)
			wantFallVoter(t, p, x, next, ok)
			who, ok := modelLeader(p, x)
			wantLeader(t, p, x, who, ok)
		}
	}
}

func TestNewPollAcceptsAllArguments(t *testing.T) {
	for _, n := range oddNets() {
		for _, far := range oddNumbers {
			want, ok := modelNew(n.Homes, far)
			wantNewPoll(t, n.Homes, far, want, ok)
		}
	}
}

func TestPlayPollAcceptsAllArguments(t *testing.T) {
	for _, p := range goodPolls() {
		for _, kind := range append(slices.Clone(oddNumbers), 7, 8, 9) {
			for _, who := range oddNumbers {
				for _, by := range []int{-1, 0, 1, mostLate, mostLate + 1, 1 << 32, oddNumbers[0]} {
					l := acts(impl.PollAct{Kind: kind, Who: who, By: by})
					want, ok := modelPlay(p, l)
					wantPlay(t, p, l, want, ok)
				}
			}
		}
	}
	for _, p := range oddPolls() {
		for _, n := range []int{0, 3, mostVoteActs, mostVoteActs + 1} {
			l := slices.Repeat(acts(act(standing, 1), act(ticking, 0)), mostVoteActs)[:n]
			want, ok := modelPlay(p, l)
			wantPlay(t, p, l, want, ok)
		}
	}
	wantPlay(t, pollOf(newVoters(3), 0), make([]impl.PollAct, 1000000), impl.Poll{}, false)
}

func TestVotersAcceptAllLetters(t *testing.T) {
	r := rand.New(rand.NewPCG(84, 84))
	bodies := oddStrings()
	for n := range 3000 {
		bodies = append(bodies, []string{"a", "y"}[n%2]+randomBytes(r, n%4), fmt.Sprint([]string{"a", "y"}[n%2], n/2))
	}
	v := voters(up(0, -1), candidate(7, 1, 1), up(lastVote, -1))
	for _, body := range bodies {
		p := pollOf(v, 10, letter(1, 0, 11, body), letter(1, 2, 11, body), letter(0, 1, 11, body), letter(2, 1, 11, body))
		want, ok := modelTickPoll(p)
		wantTickPoll(t, p, want, ok)
	}
}

// heldVoters leaves out the slices of the voters, which are held on their own.
type heldVoters []impl.Voter

func (l heldVoters) text() string {
	s := ""
	for i, v := range l {
		s += fmt.Sprint(i, v.Up, v.Term, v.For, v.Leads, len(v.Yes), " ")
	}
	return s
}

func (l heldVoters) spoil() {
	l = l[:cap(l)]
	for i := range l {
		l[i] = impl.Voter{Up: !l[i].Up, Term: -9, For: -9, Yes: l[i].Yes, Leads: !l[i].Leads}
	}
}

// crowdedPoll returns a poll whose slices are parts of longer ones; everything behind them is valid, too, and would be noticed.
func crowdedPoll() impl.Poll {
	v := voters(candidate(4, 0, []int{0, 1, 2}[:1]...), up(3, 2), leader(4, 2, []int{0, 1, 2, 3, 4}[:3]...), candidate(9, 3, 3), up(9, 3))
	under := letters(letter(0, 1, 5, "a4"), letter(1, 0, 7, "y4"), letter(2, 1, 8, "a4"), letter(1, 2, 9, "y4"), letter(2, 0, 9, "a9"), letter(2, 1, 9, "a9"))
	homes, w := []int{0, 0, 1, 1, 1}, wins(win(4, 2), win(2, 0), win(4, 1), win(1, 1))
	return impl.Poll{Voters: v[:3], Net: impl.Net{Now: 7, Homes: homes[:3], Far: 2, Under: under[:4]}, Won: w[:2]}
}

func slicesOfPoll(p impl.Poll) []heldSlice {
	l := append(slicesOfNet(p.Net), heldVoters(p.Voters), sliceOf[impl.Won](p.Won))
	for _, v := range p.Voters {
		l = append(l, sliceOf[int](v.Yes))
	}
	return l
}

// wholePoll returns the slices of a poll with all that is behind their lengths.
func wholePoll(p impl.Poll) []heldSlice {
	l := append(wholeNet(p.Net), heldVoters(p.Voters[:cap(p.Voters)]), sliceOf[impl.Won](p.Won[:cap(p.Won)]))
	for _, v := range p.Voters[:cap(p.Voters)] {
		l = append(l, sliceOf[int](v.Yes[:cap(v.Yes)]))
	}
	return l
}

// crowdedActs are some of the actions of a longer slice.
func crowdedActs() []impl.PollAct {
	return acts(act(ticking, 0), act(standing, 1), act(doubling, 1), delay(0, 2), act(losing, 0), act(falling, 2), act(ticking, 0), act(falling, 0), act(falling, 0))[:7]
}

func TestPollsNeitherChangeNorReadBehindTheirArguments(t *testing.T) {
	p, l := crowdedPoll(), crowdedActs()
	arguments := append(wholePoll(p), sliceOf[impl.PollAct](l[:cap(l)]))
	before := textsOf(arguments)
	alone := clonePoll(p)
	for range 2 {
		wantGoodPoll(t, p, true)
		wantFair(t, p, true)
		wantNewPoll(t, p.Net.Homes, 2, pollOf(newVoters(3), 0), true)
		for v := -1; v < 5; v++ {
			next, ok := modelStand(alone, v)
			wantStand(t, p, v, next, ok)
			next, ok = modelFallVoter(alone, v)
			wantFallVoter(t, p, v, next, ok)
			who, ok := modelLeader(alone, v)
			wantLeader(t, p, v, who, ok)
		}
		next, ok := modelTickPoll(alone)
		wantTickPoll(t, p, next, ok)
		for i := range len(l) + 1 {
			next, ok = modelPlay(alone, l[:i])
			wantPlay(t, p, l[:i], next, ok)
		}
		for kind := standing; kind <= delaying; kind++ {
			for who := range 4 {
				a := acts(impl.PollAct{Kind: kind, Who: who, By: 1})
				next, ok = modelPlay(alone, a)
				wantPlay(t, p, a, next, ok)
			}
		}
		if now := textsOf(arguments); !slices.Equal(now, before) {
			t.Fatalf("the arguments become %v, before %v", now, before)
		}
	}
}

// resultsOfPoll returns every slice of the results of all functions for this poll.
func resultsOfPoll(t *testing.T, p impl.Poll, l []impl.PollAct) []heldSlice {
	t.Helper()
	var results []heldSlice
	add := func(name string, p impl.Poll, ok bool) {
		if !ok {
			t.Fatalf("%s fails", name)
		}
		results = append(results, slicesOfPoll(p)...)
	}
	made, ok := impl.NewPoll(p.Net.Homes, p.Net.Far)
	add("NewPoll", made, ok)
	for _, x := range []impl.Poll{p, withVoter(p, 2, down(4, 2)), onNet(p, with(p.Net, nil)), made} {
		for v := range x.Voters {
			fallen, ok := impl.FallVoter(x, v)
			add("FallVoter", fallen, ok)
			if x.Voters[v].Up {
				stood, ok := impl.StandUp(x, v)
				add("StandUp", stood, ok)
			}
		}
		ticked, ok := impl.TickPoll(x)
		add("TickPoll", ticked, ok)
		for _, a := range [][]impl.PollAct{nil, acts(act(0, 0)), acts(act(standing, 9)), acts(act(losing, 0)), acts(act(doubling, 0)), acts(delay(0, 9)), acts(act(ticking, 0)), l} {
			played, ok := impl.PlayPoll(x, a)
			add("PlayPoll", played, ok)
		}
	}
	return results
}

func TestResultsOfPollsAreNewMemory(t *testing.T) {
	p, l := crowdedPoll(), crowdedActs()
	arguments := append(wholePoll(p), sliceOf[impl.PollAct](l[:cap(l)]))
	results := append(resultsOfPoll(t, p, l), resultsOfPoll(t, p, l)...)
	wantNewMemory(t, results, arguments)
}

func TestResultsOfPollsOutliveTheirArguments(t *testing.T) {
	p, l := crowdedPoll(), crowdedActs()
	results := resultsOfPoll(t, p, l)
	before := textsOf(results)
	for _, x := range append(slicesOfPoll(p), sliceOf[impl.PollAct](l)) {
		x.spoil()
	}
	if now := textsOf(results); !slices.Equal(now, before) {
		t.Errorf("the results become %v with the arguments", now)
	}
}

// TestAppendingToOneSliceOfAPollChangesNoOther appends where a result might have room that another one uses.
func TestAppendingToOneSliceOfAPollChangesNoOther(t *testing.T) {
	p := crowdedPoll()
	before := textsOf(wholePoll(p))
	ticked, _ := impl.TickPoll(p)
	played, _ := impl.PlayPoll(p, nil)
	for _, x := range []impl.Poll{ticked, played} {
		now := textsOf(slicesOfPoll(x))
		_ = append(x.Voters, up(9, 9))
		_ = append(x.Won, win(9, 9))
		_ = append(x.Net.Under, letter(9, 9, 9, "spoilt"))
		_ = append(x.Net.Homes, 9)
		for _, v := range x.Voters {
			_ = append(v.Yes, 9, 9)
		}
		if after := textsOf(slicesOfPoll(x)); !slices.Equal(after, now) {
			t.Errorf("the result becomes %v, before %v", after, now)
		}
	}
	if now := textsOf(wholePoll(p)); !slices.Equal(now, before) {
		t.Errorf("the argument becomes %v, before %v", now, before)
	}
}

func TestPollsDoNotDependOnEarlierCalls(t *testing.T) {
	p, l := crowdedPoll(), crowdedActs()
	before := textsOf(resultsOfPoll(t, p, l))
	for _, odd := range oddPolls() {
		impl.NewPoll(odd.Net.Homes, odd.Net.Far)
		impl.StandUp(odd, 0)
		impl.FallVoter(odd, 0)
		impl.TickPoll(odd)
		impl.LeaderOf(odd, 1)
		impl.IsFair(odd)
		impl.PlayPoll(odd, l)
	}
	if now := textsOf(resultsOfPoll(t, p, l)); !slices.Equal(now, before) {
		t.Errorf("the results are %v, before %v", now, before)
	}
}
