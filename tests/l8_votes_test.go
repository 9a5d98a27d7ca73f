package tests

import (
	"fmt"
	"math"
	"math/rand/v2"
	"regexp"
	"slices"
	"strconv"
	"strings"
	"testing"

	"loop.example/g00850/impl"
)

// The limits are written out, so that a changed constant of the program is noticed.
const (
	lastVote     = 200
	mostWon      = 60
	mostVoteActs = 200
	standing     = 1
	falling      = 2
	ticking      = 3
	losing       = 4
	doubling     = 5
	delaying     = 6
)

// up returns a voter without votes: as a rule it has voted for another one or for none.
func up(term int, vote int) impl.Voter { return impl.Voter{Up: true, Term: term, For: vote} }

func down(term int, vote int) impl.Voter { return impl.Voter{Term: term, For: vote} }

func candidate(term int, self int, yes ...int) impl.Voter {
	return impl.Voter{Up: true, Term: term, For: self, Yes: yes}
}

func leader(term int, self int, yes ...int) impl.Voter {
	return impl.Voter{Up: true, Term: term, For: self, Yes: yes, Leads: true}
}

func voters(l ...impl.Voter) []impl.Voter { return l }

func wins(l ...impl.Won) []impl.Won { return l }

func win(term int, who int) impl.Won { return impl.Won{Term: term, Who: who} }

// manyWins names every term at most once as long as there are terms enough.
func manyWins(n int) []impl.Won {
	var l []impl.Won
	for i := range n {
		l = append(l, win(1+i%lastVote, i%3))
	}
	return l
}

func act(kind int, who int) impl.PollAct { return impl.PollAct{Kind: kind, Who: who} }

func delay(i int, by int) impl.PollAct { return impl.PollAct{Kind: delaying, Who: i, By: by} }

func acts(l ...impl.PollAct) []impl.PollAct { return l }

func ticks(n int) []impl.PollAct { return slices.Repeat(acts(act(ticking, 0)), n) }

// newVoters are up, in term 0, without votes.
func newVoters(n int) []impl.Voter { return slices.Repeat(voters(up(0, -1)), n) }

// homesOf has the homes of the chapter's example for three nodes, and two nodes more for five.
func homesOf(n int) []int { return []int{0, 0, 1, 1, 2}[:n] }

// pollOf has a net of as many nodes as there are voters, with Far 2; a trip takes 1, 3 or 5 steps.
func pollOf(v []impl.Voter, now int, under ...impl.Letter) impl.Poll {
	return impl.Poll{Voters: v, Net: impl.Net{Now: now, Homes: homesOf(len(v)), Far: 2, Under: under}}
}

// won returns the poll with these elections won.
func won(p impl.Poll, l ...impl.Won) impl.Poll {
	p = clonePoll(p)
	p.Won = slices.Clone(l)
	return p
}

// withVoter returns the poll with another voter.
func withVoter(p impl.Poll, i int, v impl.Voter) impl.Poll {
	p = clonePoll(p)
	p.Voters[i] = v
	return p
}

// onNet returns the poll with another net.
func onNet(p impl.Poll, n impl.Net) impl.Poll {
	p = clonePoll(p)
	p.Net = cloneNet(n)
	return p
}

func cloneVoters(l []impl.Voter) []impl.Voter {
	l = slices.Clone(l)
	for i := range l {
		l[i].Yes = slices.Clone(l[i].Yes)
	}
	return l
}

func clonePoll(p impl.Poll) impl.Poll {
	return impl.Poll{Voters: cloneVoters(p.Voters), Net: cloneNet(p.Net), Won: slices.Clone(p.Won)}
}

func equalVoter(a impl.Voter, b impl.Voter) bool {
	return a.Up == b.Up && a.Term == b.Term && a.For == b.For && slices.Equal(a.Yes, b.Yes) && a.Leads == b.Leads
}

func equalPoll(a impl.Poll, b impl.Poll) bool {
	return slices.EqualFunc(a.Voters, b.Voters, equalVoter) && equalNet(a.Net, b.Net) && slices.Equal(a.Won, b.Won)
}

func isVoter(v impl.Voter, self int, nodes int) bool {
	elsewhere := func(yes int) bool { return !isWithin(yes, 0, nodes-1) }
	inOrder := slices.Equal(v.Yes, slices.Compact(slices.Sorted(slices.Values(v.Yes))))
	if !isWithin(v.Term, 0, lastVote) || !isWithin(v.For, -1, nodes-1) || !inOrder || slices.ContainsFunc(v.Yes, elsewhere) {
		return false
	}
	if !v.Up || v.For != self {
		return len(v.Yes) == 0 && !v.Leads
	}
	return !v.Leads || len(v.Yes) > nodes/2
}

func isPoll(p impl.Poll) bool {
	nodes := len(p.Net.Homes)
	if nodes != 3 && nodes != 5 || len(p.Voters) != nodes || !isNet(p.Net) || len(p.Won) > mostWon {
		return false
	}
	for i, v := range p.Voters {
		if !isVoter(v, i, nodes) {
			return false
		}
	}
	wrong := func(w impl.Won) bool { return !isWithin(w.Term, 1, lastVote) || !isWithin(w.Who, 0, nodes-1) }
	return !slices.ContainsFunc(p.Won, wrong)
}

func modelNew(homes []int, far int) (impl.Poll, bool) {
	n := impl.Net{Homes: homes, Far: far}
	if !isNet(n) || len(homes) != 3 && len(homes) != 5 {
		return impl.Poll{}, false
	}
	return impl.Poll{Voters: newVoters(len(homes)), Net: cloneNet(n)}, true
}

// modelSay leaves the net as it is if the letter cannot be sent.
func modelSay(p *impl.Poll, from int, to int, body string) {
	if n, ok := modelSend(p.Net, from, to, body); ok {
		p.Net = n
	}
}

func modelStand(p impl.Poll, v int) (impl.Poll, bool) {
	if !isPoll(p) || !isWithin(v, 0, len(p.Voters)-1) || !p.Voters[v].Up || p.Voters[v].Term >= lastVote {
		return impl.Poll{}, false
	}
	p = withVoter(p, v, candidate(p.Voters[v].Term+1, v, v))
	for to := range p.Voters {
		if to != v {
			modelSay(&p, v, to, fmt.Sprint("a", p.Voters[v].Term))
		}
	}
	return p, true
}

func modelFallVoter(p impl.Poll, v int) (impl.Poll, bool) {
	if !isPoll(p) || !isWithin(v, 0, len(p.Voters)-1) {
		return impl.Poll{}, false
	}
	if x := p.Voters[v]; x.Up {
		return withVoter(p, v, down(x.Term, x.For)), true
	}
	p = withVoter(p, v, p.Voters[v])
	p.Voters[v].Up = true
	return p, true
}

var lettersOfVoters = regexp.MustCompile(`\A[ay](?:[1-9]|[1-9][0-9]|1[0-9][0-9]|200)\z`)

func modelAsked(p *impl.Poll, l impl.Letter, t int) {
	v := &p.Voters[l.To]
	if t > v.Term {
		*v = up(t, -1)
	}
	if v.Term == t && (v.For == -1 || v.For == l.From) {
		v.For = l.From
		modelSay(p, l.To, l.From, fmt.Sprint("y", t))
	}
}

func modelYes(p *impl.Poll, l impl.Letter, t int) {
	v := &p.Voters[l.To]
	if v.Term != t || v.For != l.To {
		return
	}
	v.Yes = slices.Compact(slices.Sorted(slices.Values(append(slices.Clone(v.Yes), l.From))))
	if len(v.Yes) > len(p.Voters)/2 && !v.Leads {
		v.Leads = true
		if len(p.Won) < mostWon {
			p.Won = append(p.Won, win(t, l.To))
		}
	}
}

func modelTickPoll(p impl.Poll) (impl.Poll, bool) {
	if !isPoll(p) || p.Net.Now >= lastTrue {
		return impl.Poll{}, false
	}
	p = clonePoll(p)
	p.Net.Now++
	n, come, _ := modelDeliver(p.Net)
	p.Net = n
	for _, l := range come {
		if !p.Voters[l.To].Up || !lettersOfVoters.MatchString(l.Body) {
			continue
		}
		if t, _ := strconv.Atoi(l.Body[1:]); l.Body[0] == 'a' {
			modelAsked(&p, l, t)
		} else {
			modelYes(&p, l, t)
		}
	}
	return p, true
}

func modelLeader(p impl.Poll, term int) (int, bool) {
	if isPoll(p) {
		for _, w := range p.Won {
			if w.Term == term {
				return w.Who, true
			}
		}
	}
	return 0, false
}

func modelFair(p impl.Poll) bool {
	for _, a := range p.Won {
		for _, b := range p.Won {
			if a.Term == b.Term && a.Who != b.Who {
				return false
			}
		}
	}
	return isPoll(p)
}

func modelAct(p impl.Poll, a impl.PollAct) (impl.Poll, bool) {
	n, ok := impl.Net{}, false
	switch a.Kind {
	case standing:
		return modelStand(p, a.Who)
	case falling:
		return modelFallVoter(p, a.Who)
	case ticking:
		return modelTickPoll(p)
	case losing:
		n, ok = modelLose(p.Net, a.Who)
	case doubling:
		n, ok = modelDouble(p.Net, a.Who)
	case delaying:
		n, ok = modelDelay(p.Net, a.Who, a.By)
	}
	return onNet(p, n), ok
}

func modelPlay(p impl.Poll, l []impl.PollAct) (impl.Poll, bool) {
	if !isPoll(p) || len(l) > mostVoteActs {
		return impl.Poll{}, false
	}
	for _, a := range l {
		if next, ok := modelAct(p, a); ok {
			p = next
		}
	}
	return p, true
}

// wantPoll compares with the zero poll if the call has to fail. Like wantNet, it formats the call only to report it.
func wantPoll(t *testing.T, got impl.Poll, gotOK bool, want impl.Poll, ok bool, name string, arguments ...any) {
	t.Helper()
	if !equalPoll(got, want) || gotOK != ok {
		t.Errorf("%s%s = %s, %v; want %s, %v", name, short(arguments), short(got), gotOK, short(want), ok)
	}
}

func wantGoodPoll(t *testing.T, p impl.Poll, good bool) {
	t.Helper()
	if impl.GoodPoll(p) != good {
		t.Errorf("GoodPoll(%s) is %v", short(p), !good)
	}
}

func wantNewPoll(t *testing.T, homes []int, far int, want impl.Poll, ok bool) {
	t.Helper()
	got, gotOK := impl.NewPoll(homes, far)
	wantPoll(t, got, gotOK, want, ok, "NewPoll", homes, far)
}

func wantStand(t *testing.T, p impl.Poll, v int, want impl.Poll, ok bool) {
	t.Helper()
	got, gotOK := impl.StandUp(p, v)
	wantPoll(t, got, gotOK, want, ok, "StandUp", v, p)
}

func wantFallVoter(t *testing.T, p impl.Poll, v int, want impl.Poll, ok bool) {
	t.Helper()
	got, gotOK := impl.FallVoter(p, v)
	wantPoll(t, got, gotOK, want, ok, "FallVoter", v, p)
}

func wantTickPoll(t *testing.T, p impl.Poll, want impl.Poll, ok bool) {
	t.Helper()
	got, gotOK := impl.TickPoll(p)
	wantPoll(t, got, gotOK, want, ok, "TickPoll", p)
}

func wantLeader(t *testing.T, p impl.Poll, term int, who int, ok bool) {
	t.Helper()
	if got, gotOK := impl.LeaderOf(p, term); got != who || gotOK != ok {
		t.Errorf("LeaderOf(%s, %d) = %d, %v; want %d, %v", short(p), term, got, gotOK, who, ok)
	}
}

func wantFair(t *testing.T, p impl.Poll, fair bool) {
	t.Helper()
	if impl.IsFair(p) != fair {
		t.Errorf("IsFair(%s) is %v", short(p), !fair)
	}
}

func wantPlay(t *testing.T, p impl.Poll, l []impl.PollAct, want impl.Poll, ok bool) {
	t.Helper()
	got, gotOK := impl.PlayPoll(p, l)
	wantPoll(t, got, gotOK, want, ok, "PlayPoll", l, p)
}

// wantPollRefused checks that no function takes this poll, with arguments that are right for many others.
func wantPollRefused(t *testing.T, p impl.Poll) {
	t.Helper()
	wantGoodPoll(t, p, false)
	for v := range 3 {
		wantStand(t, p, v, impl.Poll{}, false)
		wantFallVoter(t, p, v, impl.Poll{}, false)
		wantLeader(t, p, v, 0, false)
	}
	wantTickPoll(t, p, impl.Poll{}, false)
	wantFair(t, p, false)
	for _, l := range [][]impl.PollAct{nil, ticks(1), acts(act(standing, 0)), acts(act(falling, 0)), acts(act(losing, 0)), acts(act(0, 0))} {
		wantPlay(t, p, l, impl.Poll{}, false)
	}
}

// mustPlay fails the test at once, so that the rest of it is about a poll that is there.
func mustPlay(t *testing.T, p impl.Poll, l ...impl.PollAct) impl.Poll {
	t.Helper()
	played, ok := impl.PlayPoll(p, l)
	if !ok {
		t.Fatalf("PlayPoll(%s, %v) fails", short(p), l)
	}
	return played
}

// goodPolls meets the limits exactly, and has voters of every kind.
func goodPolls() []impl.Poll {
	three, five := pollOf(newVoters(3), 0), pollOf(newVoters(5), 0)
	led := pollOf(voters(leader(7, 0, 0, 2), up(7, 1), up(7, 0)), 20, letter(0, 1, 21, "a7"), letter(2, 0, 21, "y7"), letter(1, 0, 25, "y6"))
	largest := won(pollOf(voters(leader(lastVote, 0, 0, 1, 2, 3, 4), up(lastVote, 0), down(lastVote, 4), up(0, -1), leader(0, 4, 0, 1, 2)), lastTrue), manyWins(mostWon)...)
	crowd := make([]impl.Letter, mostUnder)
	for i := range crowd {
		crowd[i] = letter(i%3, (i+1)%3, 9+i/20, fmt.Sprint([]string{"a", "y", "x"}[i%5%3], i%4))
	}
	return []impl.Poll{
		three, five, pollOf(newVoters(3), lastTrue-1), pollOf(newVoters(3), lastTrue), led, won(led, win(7, 0)), won(led, win(7, 0), win(7, 0), win(9, 1)),
		won(led, win(1, 1), win(1, 2)), won(three, manyWins(mostWon)...), won(three, manyWins(mostWon-1)...), largest, onNet(largest, impl.Net{Homes: make([]int, 5), Far: mostFar}),
		pollOf(voters(down(3, 2), down(3, 1), down(3, -1)), 5, letter(1, 0, 6, "a4")),
		pollOf(voters(candidate(4, 0), candidate(4, 1, 0, 2), candidate(4, 2, 0, 1, 2)), 8, crowd...),
		pollOf(voters(up(2, -1), candidate(2, 1, 1), down(lastVote, 2), leader(2, 3, 0, 2, 4), up(0, 4)), 8, crowd[:7]...),
	}
}

// spoiltVoters breaks each rule of voter 1 of three, by one and by more.
func spoiltVoters() []impl.Voter {
	return voters(
		up(-1, -1), up(lastVote+1, -1), up(math.MinInt, 0), up(math.MaxInt, 1), down(-1, 1), down(lastVote+1, 1), up(1<<32, -1),
		up(1, -2), up(1, 3), up(1, 5), up(1, math.MinInt), up(1, math.MaxInt), down(1, -2), down(1, 3), up(1, 1<<32),
		candidate(1, 1, 1, 0), candidate(1, 1, 2, 1, 0), candidate(1, 1, 1, 1), candidate(1, 1, 0, 1, 1), candidate(1, 1, 0, 0, 2), candidate(1, 1, 0, 2, 1),
		candidate(1, 1, -1), candidate(1, 1, 3), candidate(1, 1, -1, 0, 1), candidate(1, 1, 0, 1, 2, 3), candidate(1, 1, 1, math.MaxInt), candidate(1, 1, math.MinInt, 1),
		candidate(1, 0, 1), candidate(1, 2, 1), candidate(1, -1, 1), candidate(1, 0, 0), candidate(1, 2, 0, 1, 2),
		impl.Voter{Term: 1, For: 1, Yes: []int{1}}, impl.Voter{Term: 1, For: 1, Yes: []int{0, 1}, Leads: true}, impl.Voter{Term: 1, For: 1, Leads: true},
		leader(1, 1), leader(1, 1, 1), leader(1, 1, 0), leader(1, -1), leader(1, 0), leader(1, 0, 0, 1), leader(1, 2, 0, 1, 2), leader(1, -1, 0, 1, 2),
	)
}

// badPolls breaks each rule of a poll, by one and by more.
func badPolls() []impl.Poll {
	led := won(pollOf(voters(leader(7, 0, 0, 2), up(7, 1), up(7, 0)), 20, letter(0, 1, 21, "a7")), win(7, 0))
	l := []impl.Poll{
		{}, {Net: led.Net}, {Voters: led.Voters}, {Voters: newVoters(3), Net: pollOf(newVoters(5), 0).Net}, {Voters: newVoters(5), Net: pollOf(newVoters(3), 0).Net},
		{Voters: newVoters(2), Net: led.Net}, {Voters: newVoters(4), Net: led.Net}, {Voters: newVoters(1000), Net: led.Net},
		won(led, win(0, 0)), won(led, win(-1, 0)), won(led, win(lastVote+1, 0)), won(led, win(1, -1)), won(led, win(1, 3)), won(led, win(math.MinInt, 0)),
		won(led, win(math.MaxInt, 0)), won(led, win(1, math.MinInt)), won(led, win(1, math.MaxInt)), won(led, win(7, 0), impl.Won{}), won(led, impl.Won{}, win(7, 0)),
		won(led, manyWins(mostWon+1)...), won(led, manyWins(1000)...),
	}
	for _, n := range badNets() {
		for _, many := range []int{3, 5, len(n.Homes)} {
			l = append(l, impl.Poll{Voters: newVoters(many), Net: n})
		}
	}
	for _, v := range spoiltVoters() {
		l = append(l, withVoter(led, 1, v), withVoter(pollOf(newVoters(3), 0), 1, v))
	}
	return l
}

func TestGoodPoll(t *testing.T) {
	for _, p := range goodPolls() {
		wantGoodPoll(t, p, true)
	}
	for _, p := range badPolls() {
		wantPollRefused(t, p)
	}
}

func TestGoodPollChecksTheNumberOfNodesAndVoters(t *testing.T) {
	for nodes := range 9 {
		for many := range 9 {
			p := impl.Poll{Voters: newVoters(many), Net: impl.Net{Homes: make([]int, nodes)}}
			if nodes == many && (nodes == 3 || nodes == 5) {
				wantGoodPoll(t, p, true)
			} else {
				wantPollRefused(t, p)
			}
		}
	}
}

func TestGoodPollChecksTheNet(t *testing.T) {
	for _, n := range append(goodNets(), badNets()...) {
		p := impl.Poll{Voters: newVoters(len(n.Homes)), Net: n}
		wantGoodPoll(t, p, isNet(n) && (len(n.Homes) == 3 || len(n.Homes) == 5))
	}
}

func TestGoodPollChecksTheTermAndTheVoteOfEveryVoter(t *testing.T) {
	for _, many := range []int{3, 5} {
		for at := range many {
			p := pollOf(newVoters(many), 0)
			for _, term := range []int{0, 1, 2, lastVote - 1, lastVote} {
				wantGoodPoll(t, withVoter(p, at, up(term, -1)), true)
				wantGoodPoll(t, withVoter(p, at, down(term, -1)), true)
			}
			for _, term := range []int{math.MinInt, -2, -1, lastVote + 1, lastVote + 2, 256, 1 << 32, math.MaxInt} {
				wantPollRefused(t, withVoter(p, at, up(term, -1)))
				wantPollRefused(t, withVoter(p, at, down(term, -1)))
			}
			for vote := -1; vote < many; vote++ {
				wantGoodPoll(t, withVoter(p, at, up(0, vote)), true)
				wantGoodPoll(t, withVoter(p, at, down(9, vote)), true)
			}
			for _, vote := range []int{math.MinInt, -3, -2, many, many + 1, 256, 1 << 32, math.MaxInt} {
				wantPollRefused(t, withVoter(p, at, up(9, vote)))
				wantPollRefused(t, withVoter(p, at, down(0, vote)))
			}
		}
	}
}

func TestGoodPollChecksWhoSaidYes(t *testing.T) {
	for at := range 3 {
		p := pollOf(newVoters(3), 0)
		for _, yes := range [][]int{nil, {}, {0}, {1}, {2}, {0, 1}, {0, 2}, {1, 2}, {0, 1, 2}} {
			wantGoodPoll(t, withVoter(p, at, candidate(1, at, yes...)), true)
			wantGoodPoll(t, withVoter(p, at, candidate(0, at, yes...)), true)
			wantGoodPoll(t, withVoter(p, at, candidate(1, (at+1)%3, yes...)), len(yes) == 0)
			wantGoodPoll(t, withVoter(p, at, candidate(1, -1, yes...)), len(yes) == 0)
			wantGoodPoll(t, withVoter(p, at, impl.Voter{Term: 1, For: at, Yes: yes}), len(yes) == 0)
		}
		for _, yes := range [][]int{{1, 0}, {2, 1}, {2, 0}, {0, 2, 1}, {1, 0, 2}, {2, 1, 0}, {0, 0}, {2, 2}, {0, 1, 1}, {0, 0, 1}, {-1}, {3}, {-1, 0}, {0, 3}, {0, 1, 2, 3}, {5}, {1 << 32}, make([]int, 1000)} {
			wantPollRefused(t, withVoter(p, at, candidate(1, at, yes...)))
		}
	}
	for at := range 5 {
		p := pollOf(newVoters(5), 0)
		for _, yes := range [][]int{{4}, {3, 4}, {0, 1, 2, 3, 4}, {0, 2, 4}} {
			wantGoodPoll(t, withVoter(p, at, candidate(1, at, yes...)), true)
		}
		for _, yes := range [][]int{{5}, {4, 5}, {4, 3}, {0, 1, 2, 3, 4, 5}, {0, 2, 2, 4}} {
			wantPollRefused(t, withVoter(p, at, candidate(1, at, yes...)))
		}
	}
}

func TestGoodPollChecksWhoLeads(t *testing.T) {
	for _, many := range []int{3, 5} {
		for at := range many {
			p := pollOf(newVoters(many), 0)
			for n := range many + 1 {
				// Any majority will do, also one without the voter itself.
				first, last := []int{0, 1, 2, 3, 4}[:n], []int{0, 1, 2, 3, 4}[many-n:many]
				for _, yes := range [][]int{first, last} {
					wantGoodPoll(t, withVoter(p, at, leader(1, at, yes...)), many == 3 && n >= 2 || many == 5 && n >= 3)
					wantGoodPoll(t, withVoter(p, at, leader(1, -1, yes...)), false)
					wantGoodPoll(t, withVoter(p, at, leader(1, (at+1)%many, yes...)), false)
					wantGoodPoll(t, withVoter(p, at, impl.Voter{Term: 1, For: at, Yes: yes, Leads: true}), false)
				}
			}
		}
	}
}

func TestGoodPollChecksTheElectionsWon(t *testing.T) {
	p := pollOf(newVoters(3), 0)
	for _, n := range []int{0, 1, 2, mostWon - 1, mostWon} {
		wantGoodPoll(t, won(p, manyWins(n)...), true)
	}
	for _, n := range []int{mostWon + 1, mostWon + 2, 256, 1000} {
		wantPollRefused(t, won(p, manyWins(n)...))
	}
	for at := range mostWon {
		l := manyWins(mostWon)
		for _, x := range wins(win(1, 0), win(lastVote, 2), win(lastVote-1, 1)) {
			l[at] = x
			wantGoodPoll(t, won(p, l...), true)
		}
		for _, x := range wins(win(0, 0), win(-1, 0), win(lastVote+1, 0), win(1, -1), win(1, 3), win(1, 5), win(1<<32, 0), win(1, 1<<32), win(1, math.MinInt)) {
			l[at] = x
			wantGoodPoll(t, won(p, l...), false)
		}
	}
	wantGoodPoll(t, won(pollOf(newVoters(5), 0), win(1, 4)), true)
	wantGoodPoll(t, won(pollOf(newVoters(5), 0), win(1, 5)), false)
}

func TestNewPoll(t *testing.T) {
	for _, homes := range [][]int{{0, 0, 1}, {2, 1, 0}, {0, 0, 0}, {0, 1, 2, 1, 0}, {2, 2, 2, 2, 2}} {
		for _, far := range []int{0, 1, mostFar} {
			wantNewPoll(t, homes, far, impl.Poll{Voters: newVoters(len(homes)), Net: impl.Net{Homes: homes, Far: far}}, true)
		}
		for _, far := range []int{math.MinInt, -1, mostFar + 1, math.MaxInt} {
			wantNewPoll(t, homes, far, impl.Poll{}, false)
		}
	}
	for _, homes := range [][]int{nil, {}, {0}, {0, 0}, {0, 0, 1, 1}, make([]int, 6), make([]int, 7), make([]int, 1000), {0, 0, 3}, {-1, 0, 0}, {0, 0, 0, 0, 3}} {
		wantNewPoll(t, homes, 2, impl.Poll{}, false)
	}
}

func TestPollOfTheExample(t *testing.T) {
	p, _ := impl.NewPoll([]int{0, 0, 1}, 2)
	p, _ = impl.StandUp(p, 0)
	wantPoll(t, p, true, pollOf(voters(candidate(1, 0, 0), up(0, -1), up(0, -1)), 0, letter(0, 1, 1, "a1"), letter(0, 2, 3, "a1")), true, "StandUp")
	p, _ = impl.TickPoll(p)
	wantPoll(t, p, true, pollOf(voters(candidate(1, 0, 0), up(1, 0), up(0, -1)), 1, letter(1, 0, 2, "y1"), letter(0, 2, 3, "a1")), true, "TickPoll")
	p, _ = impl.TickPoll(p)
	led := won(pollOf(voters(leader(1, 0, 0, 1), up(1, 0), up(0, -1)), 2, letter(0, 2, 3, "a1")), win(1, 0))
	wantPoll(t, p, true, led, true, "TickPoll")
	wantLeader(t, p, 1, 0, true)
	fallen, _ := impl.FallVoter(p, 0)
	wantPoll(t, fallen, true, withVoter(led, 0, down(1, 0)), true, "FallVoter")
	for range 4 {
		p, _ = impl.TickPoll(p)
	}
	wantPoll(t, p, true, won(pollOf(voters(leader(1, 0, 0, 1, 2), up(1, 0), up(1, 0)), 6), win(1, 0)), true, "TickPoll")
}

func TestStandUpAsksEveryOtherVoter(t *testing.T) {
	p := pollOf(newVoters(5), 30)
	dues := [][]int{{0, 31, 33, 33, 35}, {31, 0, 33, 33, 35}, {33, 33, 0, 31, 33}, {33, 33, 31, 0, 33}, {35, 35, 33, 33, 0}}
	for v, row := range dues {
		for _, term := range []int{0, 8, 9, 98, 99, lastVote - 2, lastVote - 1} {
			before := withVoter(p, v, up(term, -1))
			want := withVoter(p, v, candidate(term+1, v, v))
			for to, due := range row {
				if to != v {
					want.Net.Under = append(want.Net.Under, letter(v, to, due, fmt.Sprint("a", term+1)))
				}
			}
			slices.SortStableFunc(want.Net.Under, byDue)
			wantStand(t, before, v, want, true)
		}
	}
}

func TestStandUpAsksInOrder(t *testing.T) {
	p := impl.Poll{Voters: newVoters(5), Net: impl.Net{Now: 4, Homes: make([]int, 5), Far: 9, Under: letters(letter(3, 4, 5, "x"), letter(3, 4, 6, "x"))}}
	want := withVoter(p, 2, candidate(1, 2, 2))
	want.Net.Under = letters(letter(3, 4, 5, "x"), letter(2, 0, 5, "a1"), letter(2, 1, 5, "a1"), letter(2, 3, 5, "a1"), letter(2, 4, 5, "a1"), letter(3, 4, 6, "x"))
	wantStand(t, p, 2, want, true)
}

func TestStandUpForgetsWhatTheVoterWas(t *testing.T) {
	asks := letters(letter(0, 1, 1, "a5"), letter(0, 2, 3, "a5"))
	for _, v := range voters(up(4, -1), up(4, 0), up(4, 1), up(4, 2), candidate(4, 0, 0), candidate(4, 0), candidate(4, 0, 1, 2), leader(4, 0, 0, 2), leader(4, 0, 0, 1, 2)) {
		p := won(pollOf(voters(v, up(4, 1), leader(4, 2, 1, 2)), 0), win(4, 0), win(4, 2))
		want := won(pollOf(voters(candidate(5, 0, 0), up(4, 1), leader(4, 2, 1, 2)), 0, asks...), win(4, 0), win(4, 2))
		wantStand(t, p, 0, want, true)
	}
}

func TestStandUpChecksTheVoter(t *testing.T) {
	for _, many := range []int{3, 5} {
		p := pollOf(newVoters(many), 0)
		for _, v := range []int{math.MinInt, -2, -1, many, many + 1, 256, 1 << 32, math.MaxInt} {
			wantStand(t, p, v, impl.Poll{}, false)
		}
		for v := range many {
			wantStand(t, withVoter(p, v, down(0, -1)), v, impl.Poll{}, false)
			wantStand(t, withVoter(p, v, down(9, v)), v, impl.Poll{}, false)
			wantStand(t, withVoter(p, v, up(lastVote, -1)), v, impl.Poll{}, false)
			wantStand(t, withVoter(p, v, candidate(lastVote, v, v)), v, impl.Poll{}, false)
			last, ok := impl.StandUp(withVoter(p, v, up(lastVote-1, -1)), v)
			if !ok || last.Voters[v].Term != lastVote || len(last.Net.Under) != many-1 || last.Net.Under[0].Body != "a200" {
				t.Errorf("voter %d stands as %v, %v, with the letters %v", v, last.Voters, ok, last.Net.Under)
			}
		}
	}
}

func TestStandUpSkipsLettersThatTheNetHasNoRoomFor(t *testing.T) {
	for _, many := range []int{3, 5} {
		for room := range 7 {
			p := pollOf(newVoters(many), 0, manyLetters(mostUnder-room)...)
			stood, ok := impl.StandUp(p, 1)
			if !ok || !equalVoter(stood.Voters[1], candidate(1, 1, 1)) {
				t.Fatalf("voter 1 stands as %v, %v", stood.Voters, ok)
			}
			var asked []int
			for _, l := range stood.Net.Under {
				if l.Body == "a1" {
					asked = append(asked, l.To)
				}
			}
			slices.Sort(asked)
			others := slices.Delete([]int{0, 1, 2, 3, 4}[:many], 1, 2)
			if want := others[:min(room, many-1)]; !slices.Equal(asked, want) || len(stood.Net.Under) != mostUnder-room+len(want) {
				t.Errorf("with room for %d letters %v are asked, want %v", room, asked, want)
			}
		}
	}
}

func TestFallVoter(t *testing.T) {
	for _, many := range []int{3, 5} {
		for v := range many {
			p := won(pollOf(newVoters(many), 3, letter(0, 1, 4, "a1")), win(2, 0))
			for _, x := range voters(up(0, -1), up(6, -1), up(6, (v+1)%many), candidate(6, v), candidate(6, v, v), candidate(lastVote, v, 0, 1, 2), leader(6, v, 0, 1, 2)) {
				wantFallVoter(t, withVoter(p, v, x), v, withVoter(p, v, down(x.Term, x.For)), true)
			}
			for _, vote := range []int{-1, 0, 1, v, many - 1} {
				for _, term := range []int{0, 1, lastVote} {
					wantFallVoter(t, withVoter(p, v, down(term, vote)), v, withVoter(p, v, up(term, vote)), true)
				}
			}
		}
		for _, v := range []int{math.MinInt, -2, -1, many, many + 1, 256, 1 << 32, math.MaxInt} {
			wantFallVoter(t, pollOf(newVoters(many), 0), v, impl.Poll{}, false)
		}
	}
}

// A hearing tells what three voters make of letters that come at 11 from nodes with the homes 0, 0 and 1; a reply takes 1 or 3 steps.
type hearing struct {
	name   string
	before []impl.Voter
	come   []impl.Letter
	after  []impl.Voter
	sent   []impl.Letter
	won    []impl.Won
}

func (h hearing) check(t *testing.T, earlier ...impl.Won) {
	t.Helper()
	later := letter(0, 2, 30, "a9")
	p := won(pollOf(h.before, 10, append(slices.Clone(h.come), later)...), earlier...)
	want := won(pollOf(h.after, 11, append(slices.Clone(h.sent), later)...), append(slices.Clone(earlier), h.won...)...)
	got, ok := impl.TickPoll(p)
	wantPoll(t, got, ok, want, true, "TickPoll", h.name)
}

func asked(from int, to int, term int) impl.Letter {
	return letter(from, to, 11, fmt.Sprint("a", term))
}

func voted(from int, to int, term int) impl.Letter {
	return letter(from, to, 11, fmt.Sprint("y", term))
}

func TestAskedForAVote(t *testing.T) {
	c, d := candidate(4, 0, 0), candidate(4, 2, 2)
	toFirst, toLast := letters(letter(1, 0, 12, "y4")), letters(letter(1, 2, 14, "y4"))
	for _, h := range []hearing{
		{"in an earlier term", voters(c, up(0, -1), up(4, 0)), letters(asked(0, 1, 4)), voters(c, up(4, 0), up(4, 0)), toFirst, nil},
		{"in the term before", voters(c, up(3, 2), up(4, 0)), letters(asked(0, 1, 4)), voters(c, up(4, 0), up(4, 0)), toFirst, nil},
		{"as a candidate before", voters(c, candidate(3, 1, 1), up(4, 0)), letters(asked(0, 1, 4)), voters(c, up(4, 0), up(4, 0)), toFirst, nil},
		{"as a leader before", voters(c, leader(3, 1, 1, 2), up(4, 0)), letters(asked(0, 1, 4)), voters(c, up(4, 0), up(4, 0)), toFirst, nil},
		{"in the same term without a vote", voters(c, up(4, -1), up(4, 0)), letters(asked(0, 1, 4)), voters(c, up(4, 0), up(4, 0)), toFirst, nil},
		{"again", voters(c, up(4, 0), up(4, 0)), letters(asked(0, 1, 4)), voters(c, up(4, 0), up(4, 0)), toFirst, nil},
		{"twice at once", voters(c, up(3, 0), up(4, 0)), letters(asked(0, 1, 4), asked(0, 1, 4)), voters(c, up(4, 0), up(4, 0)), letters(toFirst[0], toFirst[0]), nil},
		{"from afar", voters(up(4, 1), up(2, -1), candidate(4, 2, 2)), letters(asked(2, 1, 4)), voters(up(4, 1), up(4, 2), candidate(4, 2, 2)), toLast, nil},
		{"after a vote for another", voters(c, up(4, 2), up(4, 0)), letters(asked(0, 1, 4)), voters(c, up(4, 2), up(4, 0)), nil, nil},
		{"as a candidate", voters(c, candidate(4, 1, 1), up(4, 0)), letters(asked(0, 1, 4)), voters(c, candidate(4, 1, 1), up(4, 0)), nil, nil},
		{"as a leader", voters(c, leader(4, 1, 1, 2), up(4, 0)), letters(asked(0, 1, 4)), voters(c, leader(4, 1, 1, 2), up(4, 0)), nil, nil},
		{"as a restarted candidate", voters(c, up(4, 1), up(4, 0)), letters(asked(0, 1, 4)), voters(c, up(4, 1), up(4, 0)), nil, nil},
		{"in a later term", voters(c, up(5, -1), up(4, 0)), letters(asked(0, 1, 4)), voters(c, up(5, -1), up(4, 0)), nil, nil},
		{"in a later term after a vote", voters(c, up(5, 0), up(4, 0)), letters(asked(0, 1, 4)), voters(c, up(5, 0), up(4, 0)), nil, nil},
		{"while down", voters(c, down(3, 2), up(4, 0)), letters(asked(0, 1, 4)), voters(c, down(3, 2), up(4, 0)), nil, nil},
		{"while down without a vote", voters(c, down(4, -1), up(4, 0)), letters(asked(0, 1, 4)), voters(c, down(4, -1), up(4, 0)), nil, nil},
		{"by one that is down", voters(down(4, 0), up(3, 2), up(4, 0)), letters(asked(0, 1, 4)), voters(down(4, 0), up(4, 0), up(4, 0)), toFirst, nil},
		{"by two at once", voters(c, up(0, -1), d), letters(asked(2, 1, 4), asked(0, 1, 4)), voters(c, up(4, 2), d), toLast, nil},
		{"by two the other way round", voters(c, up(0, -1), d), letters(asked(0, 1, 4), asked(2, 1, 4)), voters(c, up(4, 0), d), toFirst, nil},
		{"by a later one", voters(c, up(0, -1), d), letters(asked(0, 1, 4), asked(2, 1, 5)), voters(c, up(5, 2), d), letters(toFirst[0], letter(1, 2, 14, "y5")), nil},
		{"by an earlier one", voters(c, up(0, -1), d), letters(asked(0, 1, 5), asked(2, 1, 4)), voters(c, up(5, 0), d), letters(letter(1, 0, 12, "y5")), nil},
	} {
		h.check(t)
		h.check(t, win(3, 1))
		h.check(t, manyWins(mostWon)...)
	}
}

func TestLetterOfAVote(t *testing.T) {
	a, b := up(4, 1), up(4, 0)
	for _, h := range []hearing{
		{"in its term", voters(a, candidate(4, 1, 1), b), letters(voted(0, 1, 4)), voters(a, leader(4, 1, 0, 1), b), nil, wins(win(4, 1))},
		{"from afar", voters(a, candidate(4, 1, 1), b), letters(voted(2, 1, 4)), voters(a, leader(4, 1, 1, 2), b), nil, wins(win(4, 1))},
		{"twice", voters(a, candidate(4, 1, 1), b), letters(voted(2, 1, 4), voted(2, 1, 4)), voters(a, leader(4, 1, 1, 2), b), nil, wins(win(4, 1))},
		{"of both others", voters(a, candidate(4, 1, 1), b), letters(voted(2, 1, 4), voted(0, 1, 4)), voters(a, leader(4, 1, 0, 1, 2), b), nil, wins(win(4, 1))},
		{"to a leader", voters(a, leader(4, 1, 0, 1), b), letters(voted(2, 1, 4)), voters(a, leader(4, 1, 0, 1, 2), b), nil, nil},
		{"to a leader again", voters(a, leader(4, 1, 0, 1), b), letters(voted(0, 1, 4)), voters(a, leader(4, 1, 0, 1), b), nil, nil},
		{"of the term before", voters(a, candidate(4, 1, 1), b), letters(voted(2, 1, 3)), voters(a, candidate(4, 1, 1), b), nil, nil},
		{"of the next term", voters(a, candidate(4, 1, 1), b), letters(voted(2, 1, 5)), voters(a, candidate(4, 1, 1), b), nil, nil},
		{"to one that voted for another", voters(a, up(4, 2), b), letters(voted(2, 1, 4), voted(0, 1, 4)), voters(a, up(4, 2), b), nil, nil},
		{"to one that has not voted", voters(a, up(4, -1), b), letters(voted(2, 1, 4), voted(0, 1, 4)), voters(a, up(4, -1), b), nil, nil},
		{"to one that is down", voters(a, down(4, 1), b), letters(voted(2, 1, 4), voted(0, 1, 4)), voters(a, down(4, 1), b), nil, nil},
		{"to one that restarted", voters(a, up(4, 1), b), letters(voted(2, 1, 4)), voters(a, candidate(4, 1, 2), b), nil, nil},
		{"twice to one that restarted", voters(a, up(4, 1), b), letters(voted(2, 1, 4), voted(2, 1, 4)), voters(a, candidate(4, 1, 2), b), nil, nil},
		{"of two to one that restarted", voters(a, up(4, 1), b), letters(voted(2, 1, 4), voted(0, 1, 4)), voters(a, leader(4, 1, 0, 2), b), nil, wins(win(4, 1))},
		{"again to one with a majority", voters(a, candidate(4, 1, 0, 1), b), letters(voted(0, 1, 4)), voters(a, leader(4, 1, 0, 1), b), nil, wins(win(4, 1))},
		{"of one that is down", voters(down(4, 1), candidate(4, 1, 1), b), letters(voted(0, 1, 4)), voters(down(4, 1), leader(4, 1, 0, 1), b), nil, wins(win(4, 1))},
		{"of one that did not vote", voters(up(9, 0), candidate(4, 1, 1), b), letters(voted(0, 1, 4)), voters(up(9, 0), leader(4, 1, 0, 1), b), nil, wins(win(4, 1))},
		{"of no term", voters(a, candidate(0, 1, 1), b), letters(voted(0, 1, 0), voted(2, 1, 0)), voters(a, candidate(0, 1, 1), b), nil, nil},
		{"of the last term", voters(a, candidate(lastVote, 1, 1), b), letters(voted(0, 1, lastVote)), voters(a, leader(lastVote, 1, 0, 1), b), nil, wins(win(lastVote, 1))},
		{"after a letter of the next term", voters(a, candidate(4, 1, 1), b), letters(asked(0, 1, 5), voted(2, 1, 4)), voters(a, up(5, 0), b), letters(letter(1, 0, 12, "y5")), nil},
		{"before a letter of the next term", voters(a, candidate(4, 1, 1), b), letters(voted(2, 1, 4), asked(0, 1, 5)), voters(a, up(5, 0), b), letters(letter(1, 0, 12, "y5")), wins(win(4, 1))},
	} {
		h.check(t)
		h.check(t, win(4, 1), win(2, 0))
		h.check(t, manyWins(mostWon-1)...)
	}
}

func TestTwoWinsInOneTick(t *testing.T) {
	h := hearing{"of two", voters(candidate(4, 0, 0), candidate(5, 1, 1), up(5, 1)), letters(voted(2, 1, 5), voted(2, 0, 4)), voters(leader(4, 0, 0, 2), leader(5, 1, 1, 2), up(5, 1)), nil, wins(win(5, 1), win(4, 0))}
	h.check(t)
	h.check(t, manyWins(mostWon-2)...)
	h.won = h.won[:1]
	h.check(t, manyWins(mostWon-1)...)
	h.won = nil
	h.check(t, manyWins(mostWon)...)
}

func TestAWinIsNotListedIfTheListIsFull(t *testing.T) {
	for _, n := range []int{0, 1, mostWon - 2, mostWon - 1, mostWon} {
		p := won(pollOf(voters(candidate(9, 0, 0), up(9, 0), up(9, 0)), 0, letter(1, 0, 1, "y9"), letter(2, 0, 2, "y9")), manyWins(n)...)
		led := won(pollOf(voters(leader(9, 0, 0, 1), up(9, 0), up(9, 0)), 1, letter(2, 0, 2, "y9")), append(manyWins(n), win(9, 0))[:min(n+1, mostWon)]...)
		wantTickPoll(t, p, led, true)
		all := withVoter(led, 0, leader(9, 0, 0, 1, 2))
		all.Net.Now, all.Net.Under = 2, nil
		wantTickPoll(t, led, all, true)
	}
}

func TestFiveVotersNeedThreeVotes(t *testing.T) {
	v := voters(up(4, 2), up(4, 2), candidate(4, 2, 2), up(4, 2), up(4, 2))
	for from := range 5 {
		if from == 2 {
			continue
		}
		p := pollOf(v, 10, voted(from, 2, 4), voted(from, 2, 4))
		one := withVoter(pollOf(v, 11), 2, candidate(4, 2, min(from, 2), max(from, 2)))
		wantTickPoll(t, p, one, true)
		for other := range 5 {
			if other == 2 || other == from {
				continue
			}
			yes := slices.Sorted(slices.Values([]int{2, from, other}))
			wantTickPoll(t, onNet(one, pollOf(v, 10, voted(other, 2, 4)).Net), won(withVoter(one, 2, leader(4, 2, yes...)), win(4, 2)), true)
		}
	}
	restarted := withVoter(pollOf(v, 10, voted(0, 2, 4), voted(4, 2, 4)), 2, up(4, 2))
	wantTickPoll(t, restarted, withVoter(pollOf(v, 11), 2, candidate(4, 2, 0, 4)), true)
}

func TestTermsInLetters(t *testing.T) {
	for term := range lastVote + 60 {
		good := isWithin(term, 1, lastVote)
		p := pollOf(newVoters(3), 10, asked(0, 1, term))
		if good {
			wantTickPoll(t, p, withVoter(pollOf(newVoters(3), 11, letter(1, 0, 12, fmt.Sprint("y", term))), 1, up(term, 0)), true)
		} else {
			wantTickPoll(t, p, pollOf(newVoters(3), 11), true)
		}
		if term > lastVote {
			continue
		}
		p = withVoter(pollOf(newVoters(3), 10, voted(0, 1, term)), 1, candidate(term, 1, 1))
		if good {
			wantTickPoll(t, p, won(withVoter(pollOf(newVoters(3), 11), 1, leader(term, 1, 0, 1)), win(term, 1)), true)
		} else {
			wantTickPoll(t, p, withVoter(pollOf(newVoters(3), 11), 1, candidate(term, 1, 1)), true)
		}
	}
}

// numbersOfNoTerm are no terms from 1 to 200 in decimal, though many of them look like 7 or could be read as it.
func numbersOfNoTerm() []string {
	return []string{
		"", "0", "-0", "00", "07", "007", "0007", "000000000000000000000007", "+7", "-7", "--7", " 7", "7 ", "7.", "7.0", "7,0", "7e0", "7x", "x7", "7\x00", "\x007", "7\n", "\n7", "\t7",
		"7a", "7y", "a7", "y7", "7 7", "0x7", "0b111", "0o7", "7_0", "1_0", "_7", "7u", "\u0667", "\uff17", "\u00b7", "\xb7", "vii", "#7", "'7'", "7/1", "7:", "7;",
		"201", "207", "256", "263", "999", "1000", "2000", "7000000", "65543", "4294967303", "18446744073709551623", "9223372036854775807", "99999999999999999999",
		"-9223372036854775808", strings.Repeat("7", 39), strings.Repeat("0", 38) + "7", "1" + strings.Repeat("0", 38),
	}
}

func TestOtherLettersAreIgnored(t *testing.T) {
	v := voters(up(0, -1), candidate(7, 1, 1), up(6, -1))
	bodies := []string{"7", "A7", "Y7", "b7", "x7", "z7", "\x007", "\xff7", "q", "ask7", "yes7", " a7", " y7", "aa7", "yy7", "ay7", "ya7", "a", "y", "a y7", "\u00e47", "\u00ff7", "\u03b17", "\uff417"}
	for _, number := range numbersOfNoTerm() {
		bodies = append(bodies, "a"+number, "y"+number)
	}
	for _, body := range bodies {
		if len(body) > mostBody {
			t.Fatalf("%q is too long for a letter", body)
		}
		// Each of the voters would do something if it read a term of 0 or 7 or more.
		p := pollOf(v, 10, letter(1, 0, 11, body), letter(1, 2, 11, body), letter(0, 1, 11, body), letter(2, 1, 11, body))
		wantTickPoll(t, p, pollOf(v, 11), true)
	}
	for c := range 256 {
		if c != 'a' && c != 'y' {
			body := string([]byte{byte(c), '7'})
			wantTickPoll(t, pollOf(v, 10, letter(1, 0, 11, body), letter(0, 1, 11, body)), pollOf(v, 11), true)
		}
		if c < '0' || c > '9' {
			body := string([]byte{'7', byte(c)})
			wantTickPoll(t, pollOf(v, 10, letter(1, 0, 11, "a"+body), letter(0, 1, 11, "y"+body)), pollOf(v, 11), true)
		}
	}
}

func TestAnIgnoredTermOfZero(t *testing.T) {
	// A voter in term 0 has voted for itself in no election.
	v := voters(candidate(0, 0, 0), up(0, -1), up(0, 1))
	p := pollOf(v, 10, letter(0, 1, 11, "a0"), letter(1, 2, 11, "a0"), letter(1, 0, 11, "y0"), letter(2, 0, 11, "y0"))
	wantTickPoll(t, p, pollOf(v, 11), true)
}

func TestTickPollProcessesWhatIsDueByThen(t *testing.T) {
	p := pollOf(newVoters(5), 10, letter(0, 1, 3, "a1"), letter(0, 2, 10, "a1"), letter(0, 3, 11, "a1"), letter(0, 4, 12, "a1"))
	want := pollOf(voters(up(0, -1), up(1, 0), up(1, 0), up(1, 0), up(0, -1)), 11, letter(0, 4, 12, "a1"), letter(1, 0, 12, "y1"), letter(2, 0, 14, "y1"), letter(3, 0, 14, "y1"))
	wantTickPoll(t, p, want, true)
}

func TestRepliesFitIntoAFullNet(t *testing.T) {
	due, future := slices.Repeat(letters(asked(0, 1, 4)), mostUnder), slices.Repeat(letters(letter(2, 1, 50, "x")), mostUnder)
	for _, n := range []int{0, 1, 2, mostUnder - 1, mostUnder} {
		p := pollOf(newVoters(3), 10, slices.Concat(due[:n], future[n:])...)
		want := pollOf(newVoters(3), 11, slices.Concat(slices.Repeat(letters(letter(1, 0, 12, "y4")), n), future[n:])...)
		if n > 0 {
			want.Voters[1] = up(4, 0)
		}
		wantTickPoll(t, p, want, true)
	}
}

func TestTickPollAtTheLastTime(t *testing.T) {
	v := voters(candidate(4, 0, 0), up(0, -1), up(0, -1))
	l := letters(letter(0, 1, lastTrue, "a4"), letter(0, 2, lastTrue, "a4"))
	wantTickPoll(t, pollOf(v, lastTrue-1, l...), pollOf(voters(v[0], up(4, 0), up(4, 0)), lastTrue, letter(1, 0, lastTrue+1, "y4"), letter(2, 0, lastTrue+3, "y4")), true)
	wantTickPoll(t, pollOf(v, lastTrue-2, l...), pollOf(v, lastTrue-1, l...), true)
	wantTickPoll(t, pollOf(v, lastTrue, l...), impl.Poll{}, false)
	wantTickPoll(t, pollOf(v, lastTrue), impl.Poll{}, false)
	stood := mustPlay(t, pollOf(v, lastTrue), act(standing, 1))
	if len(stood.Net.Under) != 2 || stood.Net.Under[1].Due != lastTrue+3 {
		t.Errorf("the letters %v are sent at the last time", stood.Net.Under)
	}
}

func TestALateVote(t *testing.T) {
	p, _ := impl.NewPoll([]int{0, 0, 1}, 2)
	// The votes of the first term are delayed until the voter stands in the second one.
	p = mustPlay(t, p, act(standing, 0), act(losing, 1), act(ticking, 0), delay(0, 10), act(standing, 0), act(losing, 0), act(losing, 0))
	wantPoll(t, p, true, pollOf(voters(candidate(2, 0, 0), up(1, 0), up(0, -1)), 1, letter(1, 0, 12, "y1")), true, "PlayPoll")
	p = mustPlay(t, p, ticks(11)...)
	wantPoll(t, p, true, pollOf(voters(candidate(2, 0, 0), up(1, 0), up(0, -1)), 12), true, "PlayPoll")
}

func TestALateAsk(t *testing.T) {
	p, _ := impl.NewPoll([]int{0, 0, 1}, 2)
	// Voter 1 is asked by voter 2 first, which stands in a later term.
	p = mustPlay(t, p, act(standing, 0), delay(0, 20), act(losing, 0), act(standing, 2), act(standing, 2))
	p = mustPlay(t, p, ticks(30)...)
	if !equalVoter(p.Voters[1], up(2, 2)) || !slices.Equal(p.Won, wins(win(2, 2))) || p.Voters[0].Leads {
		t.Errorf("the poll becomes %v", p)
	}
}

func TestARestartedVoterKeepsItsTermAndItsVote(t *testing.T) {
	p, _ := impl.NewPoll([]int{0, 0, 1}, 2)
	p = mustPlay(t, p, act(standing, 0), act(losing, 1), act(ticking, 0), act(losing, 0))
	wantPoll(t, p, true, pollOf(voters(candidate(1, 0, 0), up(1, 0), up(0, -1)), 1), true, "PlayPoll")
	// Voter 1 has voted for voter 0, whatever becomes of them.
	p = mustPlay(t, p, act(falling, 1), act(falling, 1), act(standing, 2))
	p = mustPlay(t, p, ticks(10)...)
	wantPoll(t, p, true, pollOf(voters(candidate(1, 0, 0), up(1, 0), candidate(1, 2, 2)), 11), true, "PlayPoll")
	p.Net.Under = letters(letter(0, 1, 12, "a1"))
	p = mustPlay(t, p, act(falling, 1), act(falling, 1), act(ticking, 0), act(ticking, 0))
	wantPoll(t, p, true, won(pollOf(voters(leader(1, 0, 0, 1), up(1, 0), candidate(1, 2, 2)), 13), win(1, 0)), true, "PlayPoll")
}

func TestARestartedCandidateMayWinItsTermAgain(t *testing.T) {
	p := won(pollOf(voters(leader(3, 0, 0, 1), up(3, 0), up(3, 0)), 0, letter(2, 0, 1, "y3"), letter(1, 0, 2, "y3"), letter(1, 0, 3, "y3")), win(3, 0))
	p = mustPlay(t, p, act(falling, 0), act(falling, 0), act(ticking, 0))
	wantPoll(t, p, true, won(pollOf(voters(candidate(3, 0, 2), up(3, 0), up(3, 0)), 1, letter(1, 0, 2, "y3"), letter(1, 0, 3, "y3")), win(3, 0)), true, "PlayPoll")
	p = mustPlay(t, p, ticks(2)...)
	wantPoll(t, p, true, won(pollOf(voters(leader(3, 0, 1, 2), up(3, 0), up(3, 0)), 3), win(3, 0), win(3, 0)), true, "PlayPoll")
	wantFair(t, p, true)
	wantLeader(t, p, 3, 0, true)
}

func TestAVoterThatIsDownMissesItsLetters(t *testing.T) {
	p, _ := impl.NewPoll([]int{0, 0, 0}, 2)
	p = mustPlay(t, p, act(standing, 0), act(falling, 1), act(falling, 2), act(ticking, 0), act(falling, 1), act(falling, 2), act(ticking, 0))
	if len(p.Net.Under) != 0 || !equalVoter(p.Voters[1], up(0, -1)) || !equalVoter(p.Voters[2], up(0, -1)) || len(p.Won) != 0 {
		t.Errorf("the poll becomes %v", p)
	}
}

func TestLeaderOf(t *testing.T) {
	p := won(pollOf(newVoters(5), 0), win(3, 1), win(7, 0), win(3, 2), win(lastVote, 4), win(7, 0), win(1, 3))
	leaders := map[int]int{1: 3, 3: 1, 7: 0, lastVote: 4}
	for term := -2; term < lastVote+3; term++ {
		who, ok := leaders[term]
		wantLeader(t, p, term, who, ok)
		wantLeader(t, won(p), term, 0, false)
	}
	for _, term := range []int{math.MinInt, 256 + 3, 1<<32 + 3, math.MaxInt} {
		wantLeader(t, p, term, 0, false)
	}
	full := won(pollOf(newVoters(3), 0), manyWins(mostWon)...)
	wantLeader(t, full, mostWon, (mostWon-1)%3, true)
	wantLeader(t, full, mostWon+1, 0, false)
	wantLeader(t, won(full, manyWins(mostWon+1)...), 1, 0, false)
}

func TestIsFair(t *testing.T) {
	p := pollOf(newVoters(3), 0)
	for _, l := range [][]impl.Won{nil, wins(win(1, 0)), wins(win(1, 0), win(2, 0)), wins(win(1, 0), win(2, 1), win(3, 2)), wins(win(5, 2), win(5, 2)), wins(win(5, 2), win(4, 1), win(5, 2), win(4, 1)), manyWins(mostWon)} {
		wantFair(t, won(p, l...), true)
	}
	for _, l := range [][]impl.Won{wins(win(1, 0), win(1, 1)), wins(win(1, 2), win(2, 0), win(1, 1)), wins(win(1, 2), win(1, 2), win(1, 0)), wins(win(3, 0), win(1, 0), win(1, 2)), wins(win(lastVote, 0), win(lastVote, 1))} {
		wantGoodPoll(t, won(p, l...), true)
		wantFair(t, won(p, l...), false)
	}
	for i := range mostWon {
		for j := range mostWon {
			l := manyWins(mostWon)
			l[j] = win(l[i].Term, (l[i].Who+1)%3)
			wantFair(t, won(p, l...), i == j)
		}
	}
	// A poll that is not valid is not fair, even if its elections are.
	wantFair(t, won(p, manyWins(mostWon+1)...), false)
	wantFair(t, impl.Poll{}, false)
	wantFair(t, withVoter(p, 0, up(-1, -1)), false)
	wantFair(t, withVoter(p, 2, leader(1, 2, 2)), false)
}

func TestIsFairDoesNotLookAtWhoLeads(t *testing.T) {
	wantFair(t, pollOf(voters(leader(1, 0, 0, 1), leader(1, 1, 1, 2), up(1, 1)), 0), true)
}

func TestPlayPollOfEveryKind(t *testing.T) {
	p := won(pollOf(voters(leader(3, 0, 0, 1), up(3, 0), down(2, 2)), 0, letter(0, 1, 4, "a3"), letter(1, 0, 5, "y3"), letter(2, 0, 5, "a2")), win(3, 0))
	stood, _ := modelStand(p, 1)
	ticked, _ := modelTickPoll(p)
	l := p.Net.Under
	for _, x := range []struct {
		kind int
		who  int
		by   int
		want impl.Poll
	}{
		{standing, 1, 7, stood}, {standing, 2, 0, p}, {standing, -1, 0, p}, {standing, 3, 0, p},
		{falling, 0, 7, withVoter(p, 0, down(3, 0))}, {falling, 2, 0, withVoter(p, 2, up(2, 2))}, {falling, -1, 0, p}, {falling, 3, 0, p},
		{ticking, 0, 0, ticked}, {ticking, 99, -99, ticked}, {ticking, -1, 0, ticked},
		{losing, 0, 0, onNet(p, with(p.Net, l[1:]))}, {losing, 2, 7, onNet(p, with(p.Net, l[:2]))}, {losing, -1, 0, p}, {losing, 3, 0, p},
		{doubling, 1, 7, onNet(p, with(p.Net, letters(l[0], l[1], l[2], l[1])))}, {doubling, -1, 0, p}, {doubling, 3, 0, p},
		{delaying, 0, 1, onNet(p, with(p.Net, letters(l[1], l[2], later(l[0], 1))))}, {delaying, 0, mostLate, onNet(p, with(p.Net, letters(l[1], l[2], later(l[0], mostLate))))},
		{delaying, 2, 2, onNet(p, with(p.Net, letters(l[0], l[1], later(l[2], 2))))},
		{delaying, 0, 0, p}, {delaying, 0, -1, p}, {delaying, 0, mostLate + 1, p}, {delaying, -1, 1, p}, {delaying, 3, 1, p},
		{0, 0, 0, p}, {7, 0, 1, p}, {-1, 0, 1, p}, {9, 1, 1, p}, {256 + ticking, 0, 1, p}, {1<<32 + standing, 1, 1, p}, {math.MinInt, 1, 1, p}, {math.MaxInt, 1, 1, p},
	} {
		a := impl.PollAct{Kind: x.kind, Who: x.who, By: x.by}
		wantPlay(t, p, acts(a), x.want, true)
		refused := acts(act(0, 0), act(standing, 2), act(losing, 3), delay(0, 0), act(7, 0))
		wantPlay(t, p, slices.Concat(refused, acts(a), refused[:1]), x.want, true)
	}
}

func TestPlayPollPerformsInOrder(t *testing.T) {
	p := pollOf(newVoters(3), 0)
	l := acts(act(standing, 0), act(doubling, 1), delay(0, 3), act(losing, 0), act(ticking, 0), act(falling, 1), act(ticking, 0), act(falling, 1), act(ticking, 0), act(standing, 2))
	want := p
	for i, a := range l {
		wantPlay(t, p, l[:i], want, true)
		next, ok := modelAct(want, a)
		if !ok {
			t.Fatalf("action %d is refused", i)
		}
		want = next
	}
	wantPlay(t, p, l, want, true)
	wantPoll(t, want, true, pollOf(voters(candidate(1, 0, 0), up(0, -1), candidate(2, 2, 2)), 3, letter(0, 1, 4, "a1"), letter(2, 0, 6, "y1"), letter(2, 0, 6, "a2"), letter(2, 1, 6, "a2")), true, "the actions")
}

func TestPlayPollChecksTheNumberOfActions(t *testing.T) {
	p := won(pollOf(newVoters(3), 0), win(1, 0))
	wantPlay(t, p, nil, p, true)
	wantPlay(t, p, acts(), p, true)
	for _, n := range []int{1, 2, mostVoteActs - 1, mostVoteActs} {
		end := clonePoll(p)
		end.Net.Now = n
		wantPlay(t, p, ticks(n), end, true)
		wantPlay(t, p, make([]impl.PollAct, n), p, true)
	}
	for _, n := range []int{mostVoteActs + 1, mostVoteActs + 2, 1000} {
		wantPlay(t, p, ticks(n), impl.Poll{}, false)
		wantPlay(t, p, make([]impl.PollAct, n), impl.Poll{}, false)
	}
}

func TestPlayPollGoesOnAfterTheLastTime(t *testing.T) {
	p := pollOf(newVoters(3), lastTrue-2)
	played := mustPlay(t, p, slices.Concat(acts(act(standing, 0)), ticks(5), acts(act(falling, 2)))...)
	want := won(pollOf(voters(leader(1, 0, 0, 1), up(1, 0), down(0, -1)), lastTrue, letter(0, 2, lastTrue+1, "a1")), win(1, 0))
	wantPoll(t, played, true, want, true, "PlayPoll")
}

// randomBody is mostly a letter that a voter sends in a term near the given one.
func randomBody(r *rand.Rand, term int) string {
	switch r.IntN(12) {
	case 0:
		return []string{"x", "a", "y", "a0", "y0", "a+1", "y01", "a201", "y1 ", "A1"}[r.IntN(10)]
	case 1, 2, 3, 4, 5:
		return fmt.Sprint("y", max(0, term+r.IntN(3)-1))
	}
	return fmt.Sprint("a", max(0, term+r.IntN(3)-1))
}

// randomPoll is a valid poll, mostly one that no poll of NewPoll becomes; its voters are in terms close to each other.
func randomPoll(r *rand.Rand) impl.Poll {
	many := 3 + 2*r.IntN(2)
	p := impl.Poll{Net: impl.Net{Now: []int{0, 50, lastTrue - 9}[r.IntN(3)], Homes: make([]int, many), Far: r.IntN(4)}}
	term := []int{0, 1, 9, 98, lastVote - 2, lastVote}[r.IntN(6)]
	for i := range many {
		p.Net.Homes[i] = r.IntN(lastHome + 1)
		v := impl.Voter{Up: r.IntN(5) > 0, Term: min(lastVote, term+r.IntN(3)), For: r.IntN(many+1) - 1}
		if r.IntN(2) == 0 {
			v.For = i
		}
		for yes := range many {
			if v.Up && v.For == i && r.IntN(2) == 0 {
				v.Yes = append(v.Yes, yes)
			}
		}
		v.Leads = len(v.Yes) > many/2 && r.IntN(2) == 0
		p.Voters = append(p.Voters, v)
	}
	for range r.IntN(mostUnder + 1) {
		from := r.IntN(many)
		to := (from + 1 + r.IntN(many-1)) % many
		p.Net.Under = modelPut(p.Net.Under, letter(from, to, p.Net.Now+r.IntN(9), randomBody(r, term)))
	}
	for range []int{0, 3, mostWon - 1, mostWon}[r.IntN(4)] {
		p.Won = append(p.Won, win(1+r.IntN(lastVote), r.IntN(many)))
	}
	return p
}

func randomAct(r *rand.Rand, p impl.Poll) impl.PollAct {
	a := impl.PollAct{Kind: r.IntN(8), Who: r.IntN(len(p.Voters)+2) - 1, By: r.IntN(mostLate+3) - 1}
	if a.Kind > ticking {
		a.Who = r.IntN(len(p.Net.Under)+2) - 1
	}
	if r.IntN(2) == 0 {
		a.Kind, a.By = ticking, 1+a.By%4
	}
	return a
}

func TestPollsAgreeWithTheModel(t *testing.T) {
	r := rand.New(rand.NewPCG(81, 81))
	for range 700 {
		p := randomPoll(r)
		wantGoodPoll(t, p, true)
		start, l := p, acts()
		for range 1 + r.IntN(60) {
			a := randomAct(r, p)
			next, ok := modelAct(p, a)
			switch a.Kind {
			case standing:
				wantStand(t, p, a.Who, next, ok)
			case falling:
				wantFallVoter(t, p, a.Who, next, ok)
			case ticking:
				wantTickPoll(t, p, next, ok)
			}
			if ok {
				p = next
			}
			l = append(l, a)
			wantGoodPoll(t, p, true)
		}
		wantPlay(t, start, l, p, true)
		wantFair(t, p, modelFair(p))
		for _, w := range p.Won {
			who, ok := modelLeader(p, w.Term)
			wantLeader(t, p, w.Term, who, ok)
		}
	}
}

// A ballotBook keeps what the promise is about: who voted for whom in each term, who has led it, and in which term each voter was seen last.
type ballotBook struct {
	votes map[[2]int]int
	leads map[int]int
	terms []int
}

func (b *ballotBook) check(t *testing.T, p impl.Poll) {
	t.Helper()
	for i, v := range p.Voters {
		if v.Term < b.terms[i] {
			t.Fatalf("voter %d goes back from term %d to %d", i, b.terms[i], v.Term)
		}
		b.terms[i] = v.Term
		vote := [2]int{v.Term, i}
		if before, has := b.votes[vote]; has && before != v.For {
			t.Fatalf("voter %d votes for %d and then for %d in term %d", i, before, v.For, v.Term)
		}
		if v.For >= 0 {
			b.votes[vote] = v.For
		}
		if v.Leads {
			b.lead(t, v.Term, i)
		}
	}
	for _, w := range p.Won {
		b.lead(t, w.Term, w.Who)
	}
}

func (b *ballotBook) lead(t *testing.T, term int, who int) {
	t.Helper()
	if before, has := b.leads[term]; has && before != who {
		t.Fatalf("voters %d and %d lead in term %d", before, who, term)
	}
	b.leads[term] = who
}

// TestNoTermHasTwoLeaders does anything in any order, with many candidates, many failures and a network that is slow, fast or full.
func TestNoTermHasTwoLeaders(t *testing.T) {
	r := rand.New(rand.NewPCG(82, 82))
	elections := 0
	for run := range 400 {
		many := 3 + 2*(run%2)
		homes := make([]int, many)
		for i := range homes {
			homes[i] = r.IntN(lastHome + 1)
		}
		p, _ := impl.NewPoll(homes, r.IntN(4))
		book := &ballotBook{map[[2]int]int{}, map[int]int{}, make([]int, many)}
		often := 2 + r.IntN(30)
		for range 500 {
			p = mustPlay(t, p, failure(r, p, often))
			book.check(t, p)
		}
		wantGoodPoll(t, p, true)
		wantFair(t, p, true)
		elections += len(book.leads)
	}
	if elections < 4000 {
		t.Errorf("only %d elections were won, which is too few to find two leaders", elections)
	}
}

// failure is one action, often a tick: the greater often is, the fewer candidates there are.
func failure(r *rand.Rand, p impl.Poll, often int) impl.PollAct {
	letter := r.IntN(len(p.Net.Under) + 1)
	switch r.IntN(often) {
	case 0:
		return act(standing, r.IntN(len(p.Voters)))
	case 1:
		return []impl.PollAct{act(losing, letter), act(doubling, letter), delay(letter, 1+r.IntN(mostLate)), act(falling, r.IntN(len(p.Voters)))}[r.IntN(4)]
	}
	return act(ticking, 0)
}

// TestCandidatesOfOneTerm lets all voters stand in the same terms, so that every vote counts.
func TestCandidatesOfOneTerm(t *testing.T) {
	r := rand.New(rand.NewPCG(83, 83))
	for run := range 300 {
		many := 3 + 2*(run%2)
		p, _ := impl.NewPoll(make([]int, many), 0)
		book := &ballotBook{map[[2]int]int{}, map[int]int{}, make([]int, many)}
		for range 40 {
			for _, v := range r.Perm(many) {
				if r.IntN(3) > 0 {
					p = mustPlay(t, p, act(standing, v))
				}
				// A voter that crashes now may already have voted, for itself or for another.
				if r.IntN(3) == 0 {
					p = mustPlay(t, p, act(falling, v), act(falling, v))
				}
				book.check(t, p)
			}
			for range 3 {
				p = mustPlay(t, p, failure(r, p, 2+r.IntN(3)), act(ticking, 0))
				book.check(t, p)
			}
		}
		wantFair(t, p, true)
	}
}
