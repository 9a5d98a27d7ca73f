package tests

import (
	"encoding/binary"
	"math"
	"math/rand/v2"
	"slices"
	"strings"
	"testing"

	"loop.example/g00850/impl"
)

// The limits are written out, so that a changed constant of the program is noticed.
const (
	tearing       = 7
	mostHouseActs = 120
)

// entryBytes encodes an entry of any validity, as far as its numbers can be encoded.
func entryBytes(e impl.Entry) string { return numBytes(e.Term) + sealBytes(recBody(e.Rec)) }

// logBytes are the frames of all entries of a log.
func logBytes(l []impl.Entry) string {
	b := ""
	for _, e := range l {
		b += frames(entryBytes(e))
	}
	return b
}

// logDisk has these entries, and other bytes behind them.
func logDisk(l []impl.Entry, behind string) impl.Disk { return disk(logBytes(l)+behind, "") }

func houseOf(g impl.Group, disks ...impl.Disk) impl.House { return impl.House{Group: g, Disks: disks} }

// housed returns the house in which each disk has just the log of its replica.
func housed(g impl.Group) impl.House {
	h := impl.House{Group: g}
	for _, r := range g.Reps {
		h.Disks = append(h.Disks, logDisk(r.Log, ""))
	}
	return h
}

func cloneHouse(h impl.House) impl.House {
	return impl.House{Group: cloneGroup(h.Group), Disks: slices.Clone(h.Disks)}
}

func withDisk(h impl.House, i int, d impl.Disk) impl.House {
	h = cloneHouse(h)
	h.Disks[i] = d
	return h
}

// behind puts other bytes behind those of a disk.
func behind(h impl.House, i int, b string) impl.House {
	return withDisk(h, i, disk(h.Disks[i].Kept+b, h.Disks[i].Loose))
}

// in returns the house with another group and the same disks.
func in(g impl.Group, h impl.House) impl.House { return impl.House{Group: g, Disks: h.Disks} }

func inHouse(a impl.GroupAct) impl.HouseAct {
	return impl.HouseAct{Kind: a.Kind, Rep: a.Rep, Rec: a.Rec}
}

func tear(r impl.Rec, keep int, torn bool) impl.HouseAct {
	return impl.HouseAct{Kind: tearing, Rec: r, Keep: keep, Torn: torn}
}

// houseActs are actions of a group in a house.
func houseActs(l ...impl.GroupAct) []impl.HouseAct {
	var acts []impl.HouseAct
	for _, a := range l {
		acts = append(acts, inHouse(a))
	}
	return acts
}

func equalHouse(a impl.House, b impl.House) bool {
	return equalGroup(a.Group, b.Group) && slices.Equal(a.Disks, b.Disks)
}

// modelReadEntry encodes what could be the entry, and looks whether the bytes are just these.
func modelReadEntry(b string) (impl.Entry, bool) {
	term, size := binary.Uvarint([]byte(b[:min(10, len(b))]))
	if size <= 0 || term < 1 || term > finalTerm {
		return impl.Entry{}, false
	}
	r, ok := impl.ReadRec(b[size:])
	e := impl.Entry{Term: int(term), Rec: r}
	if !ok || entryBytes(e) != b {
		return impl.Entry{}, false
	}
	return e, true
}

func modelOnDisk(d impl.Disk) ([]impl.Entry, bool) {
	if !isDisk(d) {
		return nil, false
	}
	var l []impl.Entry
	bodies, _ := modelFrames(d.Kept + d.Loose)
	for _, b := range bodies {
		e, ok := modelReadEntry(b)
		if !ok {
			return nil, false
		}
		l = append(l, e)
	}
	return l, true
}

// isKept tells whether the disk of a replica is as it has to be.
func isKept(r impl.Replica, d impl.Disk, term int) bool {
	l, ok := modelOnDisk(d)
	if !ok || d.Loose != "" || !startsWith(l, r.Log) {
		return false
	}
	if r.Up {
		return d.Kept == logBytes(r.Log)
	}
	low := 0
	for _, e := range r.Log {
		low = e.Term
	}
	for _, e := range l[len(r.Log):] {
		if !isWithin(e.Term, low, term) {
			return false
		}
	}
	return len(l) < len(r.Log)+2
}

func isHouse(h impl.House) bool {
	if !isReplicated(h.Group) || len(h.Disks) != len(h.Group.Reps) {
		return false
	}
	for i, r := range h.Group.Reps {
		if !isKept(r, h.Disks[i], h.Group.Term) {
			return false
		}
	}
	return true
}

// modelRestart takes the log from the disk.
func modelRestart(h impl.House, r int) (impl.House, bool) {
	g, ok := modelStart(h.Group, r)
	if !ok {
		return impl.House{}, false
	}
	l, _ := modelOnDisk(h.Disks[r])
	g.Reps[r].Log, g.Reps[r].Sure = l, 0
	if !isReplicated(g) {
		return impl.House{}, false
	}
	return withDisk(in(g, h), r, logDisk(l, "")), true
}

func modelActHouse(h impl.House, a impl.GroupAct) (impl.House, bool) {
	if !isHouse(h) {
		return impl.House{}, false
	}
	if a.Kind == starting {
		return modelRestart(h, a.Rep)
	}
	g, ok := modelGroupAct(h.Group, a)
	if !ok {
		return impl.House{}, false
	}
	h = cloneHouse(in(g, h))
	// Only logs of replicas that are up change.
	for i, r := range g.Reps {
		if r.Up {
			h.Disks[i] = logDisk(r.Log, "")
		}
	}
	return h, true
}

func modelTear(h impl.House, rec impl.Rec, keep int, torn bool) (impl.House, bool) {
	if !isHouse(h) {
		return impl.House{}, false
	}
	written, ok := modelPutEntry(h.Group, rec)
	if !ok {
		return impl.House{}, false
	}
	lead := h.Group.Lead
	frame := strings.TrimPrefix(logBytes(written.Reps[lead].Log), h.Disks[lead].Kept)
	if !isWithin(keep, 0, len(frame)) {
		return impl.House{}, false
	}
	g, _ := modelCrash(h.Group, lead)
	return withDisk(in(g, h), lead, modelFall(disk(h.Disks[lead].Kept, frame), keep, torn)), true
}

func modelHouseAct(h impl.House, a impl.HouseAct) (impl.House, bool) {
	if a.Kind == tearing {
		return modelTear(h, a.Rec, a.Keep, a.Torn)
	}
	return modelActHouse(h, impl.GroupAct{Kind: a.Kind, Rep: a.Rep, Rec: a.Rec})
}

func modelPlayHouse(h impl.House, l []impl.HouseAct) (impl.House, bool) {
	if !isHouse(h) || len(l) > mostHouseActs {
		return impl.House{}, false
	}
	for _, a := range l {
		if next, ok := modelHouseAct(h, a); ok {
			h = next
		}
	}
	return h, true
}

func wantEntryBytes(t *testing.T, e impl.Entry, b string, ok bool) {
	t.Helper()
	if got, gotOK := impl.EntryBytes(e); got != b || gotOK != ok {
		t.Errorf("EntryBytes(%s) = %.80q, %v; want %.80q, %v", short(e), got, gotOK, b, ok)
	}
}

func wantReadEntry(t *testing.T, b string, e impl.Entry, ok bool) {
	t.Helper()
	if got, gotOK := impl.ReadEntry(b); !equalEntry(got, e) || gotOK != ok {
		t.Errorf("ReadEntry(%.80q) = %s, %v; want %s, %v", b, short(got), gotOK, short(e), ok)
	}
}

func wantNoEntry(t *testing.T, b string) {
	t.Helper()
	wantReadEntry(t, b, impl.Entry{}, false)
}

func wantOnDisk(t *testing.T, d impl.Disk, l []impl.Entry, ok bool) {
	t.Helper()
	if got, gotOK := impl.OnDisk(d); !equalLog(got, l) || gotOK != ok {
		t.Errorf("OnDisk(%.80q and %.80q) = %s, %v; want %s, %v", d.Kept, d.Loose, short(got), gotOK, short(l), ok)
	}
}

func wantGoodHouse(t *testing.T, h impl.House, good bool) {
	t.Helper()
	if impl.GoodHouse(h) != good {
		t.Errorf("GoodHouse(%s) is %v", short(h), !good)
	}
}

func wantHouse(t *testing.T, got impl.House, gotOK bool, want impl.House, ok bool, name string, arguments ...any) {
	t.Helper()
	if !equalHouse(got, want) || gotOK != ok {
		t.Errorf("%s of %s = %s, %v; want %s, %v", name, short(arguments), short(got), gotOK, short(want), ok)
	}
}

func wantNewHouse(t *testing.T, many int, want impl.House, ok bool) {
	t.Helper()
	got, gotOK := impl.NewHouse(many)
	wantHouse(t, got, gotOK, want, ok, "NewHouse", many)
}

func wantActHouse(t *testing.T, h impl.House, a impl.GroupAct, want impl.House, ok bool) {
	t.Helper()
	got, gotOK := impl.ActHouse(h, a)
	wantHouse(t, got, gotOK, want, ok, "ActHouse", a, h)
}

func wantNoAct(t *testing.T, h impl.House, a impl.GroupAct) {
	t.Helper()
	wantActHouse(t, h, a, impl.House{}, false)
}

func wantTear(t *testing.T, h impl.House, r impl.Rec, keep int, torn bool, want impl.House, ok bool) {
	t.Helper()
	got, gotOK := impl.TearHouse(h, r, keep, torn)
	wantHouse(t, got, gotOK, want, ok, "TearHouse", r, keep, torn, h)
}

func wantNoTear(t *testing.T, h impl.House, r impl.Rec, keep int) {
	t.Helper()
	wantTear(t, h, r, keep, false, impl.House{}, false)
	wantTear(t, h, r, keep, true, impl.House{}, false)
}

func wantPlayHouse(t *testing.T, h impl.House, l []impl.HouseAct, want impl.House, ok bool) {
	t.Helper()
	got, gotOK := impl.PlayHouse(h, l)
	wantHouse(t, got, gotOK, want, ok, "PlayHouse", l, h)
}

// wantHouseRefused checks that no function takes this house, with arguments that are right for many others.
func wantHouseRefused(t *testing.T, h impl.House) {
	t.Helper()
	wantGoodHouse(t, h, false)
	for r := range 3 {
		for kind := range tearing + 1 {
			wantNoAct(t, h, impl.GroupAct{Kind: kind, Rep: r, Rec: floorAt(1)})
		}
	}
	wantNoTear(t, h, floorAt(1), 0)
	wantNoTear(t, h, floorAt(1), 5)
	for _, l := range [][]impl.HouseAct{nil, {{}}, {tear(floorAt(1), 0, false)}, houseActs(doOn(crashing, 0)), houseActs(doOn(starting, 2), doOn(electing, 1)), houseActs(put(floorAt(1)))} {
		wantPlayHouse(t, h, l, impl.House{}, false)
	}
}

// mustPlayHouse fails the test at once, so that the rest of it is about a house that is there.
func mustPlayHouse(t *testing.T, h impl.House, l ...impl.HouseAct) impl.House {
	t.Helper()
	played, ok := impl.PlayHouse(h, l)
	if !ok {
		t.Fatalf("PlayHouse(%s, %v) fails", short(h), l)
	}
	return played
}

// mustActHouse also fails if the action is refused.
func mustActHouse(t *testing.T, h impl.House, l ...impl.GroupAct) impl.House {
	t.Helper()
	for _, a := range l {
		next, ok := impl.ActHouse(h, a)
		if !ok {
			t.Fatalf("ActHouse(%s, %v) fails", short(h), a)
		}
		h = next
	}
	return h
}

// longestRec has the most bytes of all valid records.
func longestRec() impl.Rec {
	reads, l := longestParts()
	return prepare(lastTxn, lastTrue, lastLead, reads, l...)
}

// goodEntries have every kind of record, and terms on both sides of every change of their form.
func goodEntries() []impl.Entry {
	var l []impl.Entry
	for _, r := range goodRecs() {
		for _, term := range []int{1, 2, 127, 128, finalTerm - 1, finalTerm} {
			l = append(l, impl.Entry{Term: term, Rec: r})
		}
	}
	return l
}

// strayBodies are contents of intact frames that are no encoded entries.
func strayBodies() []string {
	rec := sealBytes(recBody(floorAt(7)))
	return []string{
		"", "a", "\x01", "\x02", rec, "\x00" + rec, "\x81\x00" + rec, numBytes(finalTerm+1) + rec, "\x01" + rec + "\x00", "\x01" + rec[:len(rec)-1],
		"\x01" + recBody(floorAt(7)), "\x01" + sealBytes(recBody(floorAt(0))), "\x01" + sealBytes(recBody(impl.Rec{})), "\x01" + sealBytes(""),
		frames(entryBytes(entry(1, 7))), entryBytes(entry(1, 7)) + entryBytes(entry(1, 7)), sealBytes(entryBytes(entry(1, 7))), strings.Repeat("\x01", mostFrame),
	}
}

// tails are bytes behind which, and in which, no intact frame is read.
func tails() []string {
	frame := frames(entryBytes(entry(4, 7)))
	l := []string{"\x00", "\x80", "\xff", "\x00\x00\x00\x08", strings.Repeat("\x00", 1000), "\x00" + frame, "\x01" + frame, frame[:3] + frame, strings.Repeat("\xff", 5000)}
	for _, n := range []int{1, 2, 7, len(frame) - 4, len(frame) - 1} {
		l = append(l, frame[:n], modelFall(disk("", frame), n, true).Kept)
	}
	return append(l, modelFall(disk("", frame), len(frame), true).Kept)
}

// exampleHouse is led by replica 0; replica 1 has a longer log of earlier terms, and replica 2, which is down, has a shorter one.
func exampleHouse() impl.House {
	return housed(groupOf(4, 0, on(2, logOf(1, 1, 4)...), on(1, logOf(1, 1, 2, 3)...), off(1, logOf(1, 1)...)))
}

// fullHouse has logs of the greatest length, one of them on a disk that has one entry more.
func fullHouse() impl.House {
	full := longLog(mostEntries, 3)
	h := housed(groupOf(7, 0, on(4, full...), on(9, full[:mostEntries-1]...), off(mostEntries, full...)))
	return behind(h, 2, frames(entryBytes(entry(5, 9))))
}

// goodHouses meets the limits exactly, and has disks of replicas that are down with all that may be behind their logs.
func goodHouses() []impl.House {
	var l []impl.House
	for _, g := range goodGroups() {
		l = append(l, housed(g))
		for i, r := range g.Reps {
			if r.Up {
				continue
			}
			l = append(l, behind(housed(g), i, tails()[i%3]))
			if g.Term > 0 {
				l = append(l, behind(housed(g), i, logBytes([]impl.Entry{entry(g.Term, 5)})), behind(housed(g), i, logBytes([]impl.Entry{entry(g.Term, 5)})+"\x80"))
			}
		}
	}
	h := exampleHouse()
	l = append(l, h, fullHouse(), behind(fullHouse(), 2, "\x80"), housed(fullHouse().Group), behind(housed(fullHouse().Group), 2, "\xff\x00"))
	for term := 1; term <= 4; term++ {
		l = append(l, behind(h, 2, logBytes([]impl.Entry{{Term: term, Rec: longestRec()}})))
	}
	for _, b := range tails() {
		l = append(l, behind(h, 2, b), behind(h, 2, logBytes([]impl.Entry{entry(3, 1)})+b))
	}
	return append(l, behind(h, 2, strings.Repeat("\xff", mostDisk-len(h.Disks[2].Kept))))
}

// badHouses breaks each rule of a house.
func badHouses() []impl.House {
	h := exampleHouse()
	l := []impl.House{{}, {Group: h.Group}, {Disks: h.Disks}, houseOf(h.Group, h.Disks[:2]...), houseOf(h.Group, append(slices.Clone(h.Disks), disk("", ""))...), houseOf(h.Group, h.Disks[1], h.Disks[0], h.Disks[2])}
	for _, g := range badGroups() {
		l = append(l, in(g, h), houseOf(g, make([]impl.Disk, len(g.Reps))...))
	}
	more := frames(entryBytes(entry(4, 9)))
	for i := range 3 {
		kept := h.Disks[i].Kept
		l = append(l, withDisk(h, i, disk(kept, "x")), withDisk(h, i, disk(kept, more)), withDisk(h, i, disk("", kept)), withDisk(h, i, disk("", "")), withDisk(h, i, disk(more, "")), withDisk(h, i, disk("\xff"+kept, "")))
		l = append(l, behind(h, i, more+more), behind(h, i, strings.Repeat("\xff", mostDisk-len(kept)+1)), withDisk(h, i, disk(kept[:len(kept)-1], "")))
		for _, b := range strayBodies() {
			l = append(l, behind(h, i, frames(b)), withDisk(h, i, disk(frames(b)+kept, "")), behind(h, i, frames(b)+"\x80"))
		}
	}
	for i := range 2 {
		l = append(l, behind(h, i, more))
		for _, b := range tails() {
			l = append(l, behind(h, i, b))
		}
	}
	return l
}

func TestConstantsOfHouses(t *testing.T) {
	if got := []int{impl.HaTear, impl.MaxHouseActs}; !slices.Equal(got, []int{tearing, mostHouseActs}) {
		t.Errorf("the constants are %v", got)
	}
}

func TestEntryBytes(t *testing.T) {
	wantEntryBytes(t, entry(2, 7), "\x02"+sealBytes("\x04\x00\x07\x00\x00\x00\x00"), true)
	wantEntryBytes(t, impl.Entry{Term: 1, Rec: prepare(3, 20, 1, []string{"a"}, store("b", "7"), drop("c"))}, "\x01"+sealBytes("\x01\x03\x14\x01\x00\x01\x01a\x02\x01b\x00\x017\x01c\x01\x00"), true)
	for _, e := range goodEntries() {
		b, ok := impl.RecBytes(e.Rec)
		wantEntryBytes(t, e, numBytes(e.Term)+b, ok)
		wantEntryBytes(t, e, entryBytes(e), true)
	}
}

func TestEntryBytesChecksTheTerm(t *testing.T) {
	rec := sealBytes(recBody(floorAt(7)))
	for _, x := range []struct {
		term int
		b    string
	}{{1, "\x01"}, {2, "\x02"}, {127, "\x7f"}, {128, "\x80\x01"}, {finalTerm - 1, "\xc7\x01"}, {finalTerm, "\xc8\x01"}} {
		wantEntryBytes(t, entry(x.term, 7), x.b+rec, true)
	}
	for _, term := range []int{math.MinInt, -finalTerm, -1, 0, finalTerm + 1, finalTerm + 2, 256, 257, 1 << 32, 1<<32 + 1, impl.MaxNum, math.MaxInt} {
		wantEntryBytes(t, entry(term, 7), "", false)
		wantEntryBytes(t, impl.Entry{Term: term, Rec: longestRec()}, "", false)
		wantEntryBytes(t, impl.Entry{Term: term}, "", false)
	}
}

func TestEntryBytesChecksTheRecord(t *testing.T) {
	for _, r := range badRecs() {
		for _, term := range []int{0, 1, finalTerm, finalTerm + 1} {
			wantEntryBytes(t, impl.Entry{Term: term, Rec: r}, "", false)
		}
	}
}

func TestReadEntryInvertsEntryBytes(t *testing.T) {
	for _, e := range goodEntries() {
		b := entryBytes(e)
		wantReadEntry(t, b, e, true)
		for _, bad := range []string{b[:len(b)-1], b[len(numBytes(e.Term)):], b + "\x00", b + "x", "\x00" + b, b + b, frames(b)} {
			wantNoEntry(t, bad)
		}
	}
	wantReadEntry(t, "\x02"+sealBytes("\x04\x00\x07\x00\x00\x00\x00"), entry(2, 7), true)
}

func TestReadEntryFailsOnEveryPrefix(t *testing.T) {
	for _, e := range []impl.Entry{entry(1, 1), entry(finalTerm, lastTrue), {Term: 3, Rec: longestRec()}, {Term: 128, Rec: no(kindDecide, 9)}} {
		b := entryBytes(e)
		for n := range b {
			wantNoEntry(t, b[:n])
		}
	}
}

// TestReadEntryOfChangedBytes finds another entry only where the term itself is changed.
func TestReadEntryOfChangedBytes(t *testing.T) {
	for _, e := range []impl.Entry{entry(1, 1), entry(150, 7), {Term: 5, Rec: yes(kindDone, 3, 300)}, {Term: finalTerm, Rec: prepare(3, 20, 1, []string{"a"}, store("b", "7"), drop("c"))}} {
		b := []byte(entryBytes(e))
		for i, old := range b {
			for by := 1; by < 256; by++ {
				b[i] = old + byte(by)
				other := impl.Entry{Rec: e.Rec}
				for term := 1; term <= finalTerm; term++ {
					if i < len(numBytes(e.Term)) && strings.HasPrefix(string(b), numBytes(term)) && len(numBytes(term)) == len(numBytes(e.Term)) {
						other.Term = term
					}
				}
				if other.Term > 0 {
					wantReadEntry(t, string(b), other, true)
				} else {
					wantNoEntry(t, string(b))
				}
			}
			b[i] = old
		}
	}
}

func TestReadEntryChecksTheTerm(t *testing.T) {
	rec := sealBytes(recBody(floorAt(7)))
	for term := 1; term <= finalTerm; term++ {
		wantReadEntry(t, numBytes(term)+rec, entry(term, 7), true)
	}
	for _, term := range []int{0, finalTerm + 1, finalTerm + 2, 256, 257, 16384, 1 << 28, impl.MaxNum} {
		wantNoEntry(t, numBytes(term)+rec)
	}
	// Not in its shortest form, more than there can be, without an end, or not there.
	for _, b := range []string{"\x80\x00", "\x81\x00", "\x87\x80\x00", "\xc8\x81\x00", "\x81\x94\xeb\xdc\x03", "\x81\x80\x80\x80\x80\x80\x80\x80\x80\x02", "\xff\xff\xff\xff\xff\xff\xff\xff\xff\x01", "\x80", "\xff\xff", ""} {
		wantNoEntry(t, b+rec)
		wantNoEntry(t, b)
	}
}

func TestReadEntryOfOtherBytes(t *testing.T) {
	for _, b := range strayBodies() {
		wantNoEntry(t, b)
	}
	for _, n := range []int{1, 100, 5999, 6000, 6001, mostDisk} {
		wantNoEntry(t, entryBytes(entry(1, 7))+strings.Repeat("\x00", n))
		wantNoEntry(t, strings.Repeat("\x01", n))
		wantNoEntry(t, strings.Repeat("\xff", n))
	}
	for _, r := range badRecs() {
		if min(r.Kind, r.Txn, r.Time, r.Lead) >= 0 && max(r.Kind, r.Txn, r.Time, r.Lead) <= impl.MaxNum {
			wantNoEntry(t, entryBytes(impl.Entry{Term: 1, Rec: r}))
		}
	}
}

func TestOnDisk(t *testing.T) {
	wantOnDisk(t, impl.Disk{}, nil, true)
	all := goodEntries()[:80]
	for n := range len(all) + 1 {
		wantOnDisk(t, logDisk(all[:n], ""), all[:n], true)
	}
	// The entries need not be a log.
	wantOnDisk(t, logDisk(logOf(3, 2, 9, 1), ""), logOf(3, 2, 9, 1), true)
	l := slices.Repeat([]impl.Entry{entry(1, 1)}, mostDisk/len(logBytes(logOf(1))))
	wantOnDisk(t, logDisk(l, ""), l, true)
	wantOnDisk(t, logDisk(l, strings.Repeat("\xff", mostDisk-len(logBytes(l)))), l, true)
}

func TestOnDiskReadsWhatIsNotFlushed(t *testing.T) {
	l := logOf(1, 2, 2)
	b := logBytes(l)
	for n := range len(b) + 1 {
		wantOnDisk(t, disk(b[:n], b[n:]), l, true)
		wantOnDisk(t, disk(b[:n], b[n:]+"\x80"), l, true)
	}
}

// TestOnDiskStopsAtATornFrame has a frame that is cut or torn behind some entries.
func TestOnDiskStopsAtATornFrame(t *testing.T) {
	for _, e := range []impl.Entry{entry(2, 9), {Term: finalTerm, Rec: longestRec()}} {
		frame := logBytes([]impl.Entry{e})
		for n := range 3 {
			l := longLog(n, 1)
			wantOnDisk(t, logDisk(l, frame), append(cloneLog(l), e), true)
			for keep := range len(frame) + 1 {
				if keep < len(frame) {
					wantOnDisk(t, logDisk(l, frame[:keep]), l, true)
				}
				if keep > 0 {
					wantOnDisk(t, logDisk(l, modelFall(disk("", frame), keep, true).Kept), l, true)
				}
			}
		}
	}
	for _, b := range tails() {
		wantOnDisk(t, disk(b, ""), nil, true)
		wantOnDisk(t, logDisk(logOf(1, 3), b), logOf(1, 3), true)
		wantOnDisk(t, disk(logBytes(logOf(1, 3)), b), logOf(1, 3), true)
	}
	wantOnDisk(t, disk(logBytes(logOf(1))+"\x80"+frames("stray"), ""), logOf(1), true)
}

func TestOnDiskRefusesFramesThatAreNoEntries(t *testing.T) {
	l := logBytes(logOf(1, 2))
	for _, b := range strayBodies() {
		stray := frames(b)
		for _, d := range []impl.Disk{disk(stray, ""), disk(stray+l, ""), disk(l+stray, ""), disk(l+stray+l, ""), disk(l, stray), disk("", stray+l), disk(l+stray+"\x80", ""), disk(l+stray, "\xff")} {
			wantOnDisk(t, d, nil, false)
		}
	}
}

func TestOnDiskRefusesInvalidDisks(t *testing.T) {
	b := logBytes(logOf(1, 2))
	rest := strings.Repeat("\xff", mostDisk-len(b))
	wantOnDisk(t, disk(b+rest, ""), logOf(1, 2), true)
	wantOnDisk(t, disk(b, rest), logOf(1, 2), true)
	for _, d := range []impl.Disk{disk(b+rest+"\xff", ""), disk(b+rest, "\xff"), disk(b, rest+"\xff"), disk("", b+rest+"\xff"), disk(strings.Repeat("\xff", mostDisk+1), "")} {
		wantOnDisk(t, d, nil, false)
	}
}

func TestGoodHouse(t *testing.T) {
	for _, h := range goodHouses() {
		wantGoodHouse(t, h, true)
	}
	for _, h := range badHouses() {
		wantHouseRefused(t, h)
	}
}

func TestGoodHouseChecksTheNumberOfDisks(t *testing.T) {
	for many := range 7 {
		for disks := range 8 {
			g := groupOf(1, -1, newReps(many)...)
			wantGoodHouse(t, houseOf(g, make([]impl.Disk, disks)...), disks == many && (many == 3 || many == 5))
			for i := range many {
				g = withRep(g, i, off(0))
			}
			wantGoodHouse(t, houseOf(g, make([]impl.Disk, disks)...), disks == many && (many == 3 || many == 5))
		}
	}
	wantGoodHouse(t, houseOf(groupOf(1, -1, newReps(3)...), make([]impl.Disk, 100000)...), false)
}

// TestGoodHouseChecksEveryDisk has one replica that is up and one that is down at every place.
func TestGoodHouseChecksEveryDisk(t *testing.T) {
	log := logOf(2, 2, 4)
	kept, other := logBytes(log), logBytes([]impl.Entry{entry(2, 1), entry(2, 2), entry(4, 8)})
	further := func(term int) string { return kept + logBytes([]impl.Entry{entry(term, 9)}) }
	for _, x := range []struct {
		d    impl.Disk
		up   bool
		down bool
	}{
		{disk(kept, ""), true, true}, {disk(kept+"\x80", ""), false, true}, {disk(kept+further(6)[len(kept):len(kept)+5], ""), false, true}, {disk(kept+strings.Repeat("\xff", mostDisk-len(kept)), ""), false, true},
		{disk(further(3), ""), false, false}, {disk(further(4), ""), false, true}, {disk(further(5), ""), false, true}, {disk(further(6), ""), false, true}, {disk(further(7), ""), false, false},
		{disk(further(1), ""), false, false}, {disk(further(0), ""), false, false}, {disk(further(finalTerm), ""), false, false}, {disk(further(finalTerm+1), ""), false, false},
		{disk(further(4)+"\x80", ""), false, true}, {disk(further(6)+further(6)[len(kept):len(kept)+9], ""), false, true}, {disk(further(7)+"\x80", ""), false, false},
		{disk(further(4)+logBytes([]impl.Entry{entry(4, 9)}), ""), false, false}, {disk(further(4)+logBytes([]impl.Entry{entry(4, 9)})+"\x80", ""), false, false},
		{disk(logBytes(log[:2]), ""), false, false}, {disk(logBytes(log[:1]), ""), false, false}, {disk("", ""), false, false}, {disk("\x80", ""), false, false}, {disk(kept[:len(kept)-1], ""), false, false},
		{disk(other, ""), false, false}, {disk(other+logBytes(log[2:]), ""), false, false}, {disk(logBytes(log[1:]), ""), false, false}, {disk(logBytes(logOf(2, 4)), ""), false, false},
		{disk("\x80"+kept, ""), false, false}, {disk(logBytes(log[:2])+"\x80"+logBytes(log[2:]), ""), false, false}, {disk(kept+frames("stray"), ""), false, false}, {disk(frames("")+kept, ""), false, false},
		{disk(kept, "\x80"), false, false}, {disk(kept, kept), false, false}, {disk("", kept), false, false}, {disk(kept, further(4)[len(kept):]), false, false}, {disk(logBytes(log[:2]), logBytes(log[2:])), false, false},
		{disk(kept+strings.Repeat("\xff", mostDisk-len(kept)+1), ""), false, false},
	} {
		for _, many := range []int{3, 5} {
			for i := range many {
				up := withRep(groupOf(6, -1, newReps(many)...), i, on(1, log...))
				wantGoodHouse(t, withDisk(housed(up), i, x.d), x.up)
				down := withRep(up, i, off(1, log...))
				wantGoodHouse(t, withDisk(housed(down), i, x.d), x.down)
				wantGoodHouse(t, withDisk(housed(led(down, 6, (i+1)%many)), i, x.d), x.down)
			}
		}
	}
}

func TestGoodHouseOfADownReplicaWithoutEntries(t *testing.T) {
	for term := range 5 {
		h := housed(groupOf(3, -1, on(0), off(0), on(0)))
		wantGoodHouse(t, behind(h, 1, frames(numBytes(term)+sealBytes(recBody(floorAt(1))))), isWithin(term, 1, 3))
		none := housed(groupOf(0, -1, on(0), off(0), on(0)))
		wantGoodHouse(t, behind(none, 1, frames(numBytes(term)+sealBytes(recBody(floorAt(1))))), false)
		wantGoodHouse(t, behind(none, 1, "\x80"), true)
	}
}

func TestGoodHouseComparesWholeEntries(t *testing.T) {
	for _, x := range twinEntries() {
		for _, l := range [][2][]impl.Entry{{{x[0]}, {x[1]}}, {{x[0], entry(2, 7)}, {x[1], entry(2, 7)}}, {{entry(1, 7), x[0]}, {entry(1, 7), x[1]}}} {
			for _, r := range []impl.Replica{on(1, l[0]...), off(0, l[0]...)} {
				h := housed(groupOf(2, -1, on(0), on(0), r))
				wantGoodHouse(t, h, true)
				wantGoodHouse(t, withDisk(h, 2, logDisk(l[1], "")), false)
			}
		}
	}
}

// TestGoodHouseOfAFullLog allows one entry more on the disk, which the replica then cannot take into its log.
func TestGoodHouseOfAFullLog(t *testing.T) {
	h := fullHouse()
	wantGoodHouse(t, h, true)
	wantGoodHouse(t, behind(h, 2, "\x80"), true)
	wantGoodHouse(t, behind(h, 2, logBytes([]impl.Entry{entry(5, 9)})), false)
	wantGoodHouse(t, behind(h, 0, logBytes([]impl.Entry{entry(5, 9)})), false)
	longest := slices.Repeat([]impl.Entry{{Term: finalTerm, Rec: longestRec()}}, mostEntries)
	wantGoodHouse(t, housed(groupOf(finalTerm, 0, on(0, longest...), on(mostEntries, longest...), off(0, longest...))), true)
	wantGoodHouse(t, behind(housed(groupOf(finalTerm, 0, on(0, longest...), on(0), off(0, longest...))), 2, logBytes(longest[:1])), true)
}

func TestNewHouse(t *testing.T) {
	wantNewHouse(t, 3, houseOf(groupOf(0, -1, on(0), on(0), on(0)), disk("", ""), disk("", ""), disk("", "")), true)
	wantNewHouse(t, 5, houseOf(groupOf(0, -1, on(0), on(0), on(0), on(0), on(0)), make([]impl.Disk, 5)...), true)
	for _, many := range []int{math.MinInt, -5, -3, -1, 0, 1, 2, 4, 6, 7, 8, 256 + 3, 1<<32 + 3, 1 << 40, math.MaxInt} {
		wantNewHouse(t, many, impl.House{}, false)
	}
	for _, many := range []int{3, 5} {
		h, _ := impl.NewHouse(many)
		wantGoodHouse(t, h, true)
	}
}

// TestHouseOfTheExamples follows the examples of the chapter.
func TestHouseOfTheExamples(t *testing.T) {
	h, _ := impl.NewHouse(3)
	h = mustActHouse(t, h, doOn(electing, 0), put(floorAt(7)))
	wantOnDisk(t, h.Disks[0], []impl.Entry{entry(1, 7)}, true)
	wantOnDisk(t, h.Disks[1], nil, true)
	h = mustActHouse(t, h, doOn(copying, 1))
	if h.Disks[1] != h.Disks[0] || h.Disks[2] != disk("", "") || h.Disks[0].Loose != "" {
		t.Errorf("the disks are %q", h.Disks)
	}
	next := logBytes([]impl.Entry{entry(1, 8)})
	for _, x := range []struct {
		keep int
		torn bool
		log  []impl.Entry
	}{
		{len(next), false, []impl.Entry{entry(1, 7), entry(1, 8)}}, {len(next), true, []impl.Entry{entry(1, 7)}}, {len(next) - 1, false, []impl.Entry{entry(1, 7)}},
		{len(next) - 1, true, []impl.Entry{entry(1, 7)}}, {1, true, []impl.Entry{entry(1, 7)}}, {0, true, []impl.Entry{entry(1, 7)}}, {0, false, []impl.Entry{entry(1, 7)}},
	} {
		torn, ok := impl.TearHouse(h, floorAt(8), x.keep, x.torn)
		if !ok {
			t.Fatalf("TearHouse fails with %d bytes", x.keep)
		}
		risen := mustActHouse(t, torn, doOn(starting, 0))
		wantHouse(t, risen, true, housed(groupOf(1, -1, on(0, x.log...), on(0, entry(1, 7)), on(0))), true, "the restart after", x)
	}
	// The leader crashes with a complete frame of its second entry, and another one overwrites it.
	l := []impl.HouseAct{tear(floorAt(8), len(next), false), inHouse(doOn(electing, 1)), inHouse(put(floorAt(9))), inHouse(doOn(starting, 0)), inHouse(doOn(copying, 0)), inHouse(doOn(advancing, 0))}
	log := []impl.Entry{entry(1, 7), entry(2, 9)}
	wantPlayHouse(t, h, l, housed(groupOf(2, 1, on(0, log...), on(2, log...), on(0))), true)
}

func TestActHouseOfEveryKind(t *testing.T) {
	h := behind(exampleHouse(), 2, logBytes([]impl.Entry{entry(3, 9)})+"\x80")
	g := h.Group
	log := logOf(1, 1, 4)
	for _, x := range []struct {
		act  impl.GroupAct
		want impl.House
	}{
		{doOn(crashing, 0), in(led(withRep(g, 0, off(2, log...)), 4, -1), h)}, {doOn(crashing, 1), in(withRep(g, 1, off(1, logOf(1, 1, 2, 3)...)), h)},
		{doOn(starting, 2), withDisk(in(withRep(g, 2, on(0, entry(1, 1), entry(1, 2), entry(3, 9))), h), 2, logDisk([]impl.Entry{entry(1, 1), entry(1, 2), entry(3, 9)}, ""))},
		{doOn(electing, 0), in(led(g, 5, 0), h)},
		{put(floorAt(4)), withDisk(in(withRep(g, 0, on(2, logOf(1, 1, 4, 4)...)), h), 0, logDisk(logOf(1, 1, 4, 4), ""))},
		{doOn(copying, 1), withDisk(in(withRep(g, 1, on(2, log...)), h), 1, logDisk(log, ""))},
		{doOn(advancing, 0), h}, {impl.GroupAct{Kind: advancing, Rep: -9, Rec: impl.Rec{Kind: 9}}, h},
		{impl.GroupAct{Kind: putting, Rep: 2, Rec: floorAt(4)}, withDisk(in(withRep(g, 0, on(2, logOf(1, 1, 4, 4)...)), h), 0, logDisk(logOf(1, 1, 4, 4), ""))},
		{impl.GroupAct{Kind: copying, Rep: 1, Rec: floorAt(4)}, withDisk(in(withRep(g, 1, on(2, log...)), h), 1, logDisk(log, ""))},
		{impl.GroupAct{Kind: crashing, Rep: 1, Rec: floorAt(4)}, in(withRep(g, 1, off(1, logOf(1, 1, 2, 3)...)), h)},
	} {
		wantActHouse(t, h, x.act, x.want, true)
		wantGoodHouse(t, x.want, true)
	}
	refused := groupActs(doOn(crashing, 2), doOn(starting, 0), doOn(starting, 1), doOn(electing, 1), doOn(electing, 2), put(impl.Rec{}), put(floorAt(0)), doOn(copying, 0), doOn(copying, 2))
	for _, r := range []int{math.MinInt, -1, 3, 4, 1 << 32, math.MaxInt} {
		refused = append(refused, doOn(crashing, r), doOn(starting, r), doOn(electing, r), doOn(copying, r))
	}
	for _, kind := range []int{math.MinInt, -1, 0, tearing, 8, 9, 256 + crashing, 1<<32 + starting, math.MaxInt} {
		refused = append(refused, doOn(kind, 1), impl.GroupAct{Kind: kind, Rep: 2, Rec: floorAt(5)})
	}
	for _, a := range refused {
		wantNoAct(t, h, a)
	}
	idle := in(led(g, 4, -1), h)
	for _, a := range groupActs(put(floorAt(5)), doOn(copying, 1), doOn(copying, 0), doOn(advancing, 0)) {
		wantNoAct(t, idle, a)
	}
}

func TestActHouseOfManyHouses(t *testing.T) {
	for _, h := range goodHouses() {
		for kind := range tearing + 2 {
			for r := -1; r <= len(h.Group.Reps); r++ {
				a := impl.GroupAct{Kind: kind, Rep: r, Rec: longestRec()}
				next, ok := modelActHouse(h, a)
				wantActHouse(t, h, a, next, ok)
			}
		}
	}
}

func TestPuttingWritesEveryEntry(t *testing.T) {
	h, _ := impl.NewHouse(5)
	h = mustActHouse(t, h, doOn(electing, 3))
	var log []impl.Entry
	for _, e := range goodEntries()[:mostEntries] {
		log = append(log, impl.Entry{Term: 1, Rec: e.Rec})
		h = mustActHouse(t, h, put(e.Rec))
		wantHouse(t, h, true, housed(groupOf(1, 3, on(0), on(0), on(0), on(0, log...), on(0))), true, "ActHouse")
	}
	wantNoAct(t, h, put(floorAt(1)))
	h = mustActHouse(t, h, doOn(copying, 4))
	wantHouse(t, h, true, housed(groupOf(1, 3, on(0), on(0), on(0), on(0, log...), on(0, log...))), true, "ActHouse")
}

func TestTheLongestLogFitsOnADisk(t *testing.T) {
	longest := slices.Repeat([]impl.Entry{{Term: finalTerm, Rec: longestRec()}}, mostEntries)
	h := housed(groupOf(finalTerm, 1, on(0), on(0, longest[:mostEntries-1]...), on(0)))
	h = mustActHouse(t, h, put(longestRec()), doOn(copying, 0))
	wantHouse(t, h, true, housed(groupOf(finalTerm, 1, on(0, longest...), on(0, longest...), on(0))), true, "ActHouse")
	wantNoAct(t, h, put(longestRec()))
	h = mustActHouse(t, h, doOn(crashing, 0), doOn(starting, 0))
	wantHouse(t, h, true, housed(groupOf(finalTerm, 1, on(0, longest...), on(0, longest...), on(0))), true, "ActHouse")
}

// TestCopyingMakesALogShorterOnItsDiskToo replaces logs by shorter, longer and other ones.
func TestCopyingMakesALogShorterOnItsDiskToo(t *testing.T) {
	logs := [][]impl.Entry{nil, logOf(1), logOf(1, 2), logOf(2, 2), {entry(1, 9), entry(2, 9)}, logOf(1, 2, 3), longLog(mostEntries, 1), longLog(mostEntries, 3), {{Term: 3, Rec: longestRec()}}}
	for _, from := range logs {
		for _, to := range logs {
			h := housed(groupOf(3, 0, on(0, from...), on(0, to...), off(0, to...), on(0, to...), on(0)))
			for _, r := range []int{1, 3, 4} {
				wantActHouse(t, h, doOn(copying, r), housed(withRep(h.Group, r, on(0, from...))), true)
			}
			wantNoAct(t, h, doOn(copying, 2))
			wantNoAct(t, h, doOn(copying, 0))
		}
	}
}

// TestARestartReadsTheDisk starts replicas with all that may be behind their logs, and with any number of entries known to be committed.
func TestARestartReadsTheDisk(t *testing.T) {
	for _, log := range [][]impl.Entry{nil, logOf(1), logOf(1, 2, 3), longLog(mostEntries-1, 3)} {
		for _, behindIt := range append(tails(), "") {
			for sure := range min(len(log), 3) + 1 {
				g := groupOf(5, 1, off(sure, log...), on(0, logOf(4)...), on(0))
				h := behind(housed(g), 0, behindIt)
				wantActHouse(t, h, doOn(starting, 0), housed(withRep(g, 0, on(0, log...))), true)
				for _, e := range []impl.Entry{entry(3, 77), entry(5, 1), {Term: 4, Rec: longestRec()}} {
					h := behind(housed(g), 0, logBytes([]impl.Entry{e})+behindIt)
					wantActHouse(t, h, doOn(starting, 0), housed(withRep(g, 0, on(0, append(cloneLog(log), e)...))), true)
				}
			}
		}
	}
}

// TestARestartNeedsRoomInTheLog has one entry more on a disk than a log can have.
func TestARestartNeedsRoomInTheLog(t *testing.T) {
	h := fullHouse()
	wantNoAct(t, h, doOn(starting, 2))
	wantNoAct(t, behind(h, 2, "\x80"), doOn(starting, 2))
	for _, b := range []string{"", "\x80"} {
		h := behind(h, 2, b)
		wantPlayHouse(t, h, houseActs(doOn(starting, 2)), h, true)
		wantPlayHouse(t, h, houseActs(doOn(starting, 2), doOn(crashing, 1), doOn(starting, 2)), in(withRep(h.Group, 1, off(9, longLog(mostEntries-1, 3)...)), h), true)
	}
	full := housed(h.Group)
	wantActHouse(t, full, doOn(starting, 2), housed(withRep(h.Group, 2, on(0, longLog(mostEntries, 3)...))), true)
	wantActHouse(t, behind(full, 2, "\x80"), doOn(starting, 2), housed(withRep(h.Group, 2, on(0, longLog(mostEntries, 3)...))), true)
	// With one entry less the further one is the last that the log has room for.
	less := withRep(h.Group, 2, off(7, longLog(mostEntries-1, 3)...))
	wantActHouse(t, behind(housed(less), 2, logBytes([]impl.Entry{entry(5, 9)})), doOn(starting, 2), housed(withRep(less, 2, on(0, append(longLog(mostEntries-1, 3), entry(5, 9))...))), true)
}

func TestTheOtherActionsLeaveTheDisks(t *testing.T) {
	h := behind(behind(housed(groupOf(6, 1, off(1, logOf(1)...), on(0, logOf(1, 6)...), on(0, logOf(1, 6)...), on(0), off(0))), 0, "\x80"), 4, logBytes(logOf(6)))
	wantActHouse(t, h, doOn(crashing, 1), in(led(withRep(h.Group, 1, off(0, logOf(1, 6)...)), 6, -1), h), true)
	wantActHouse(t, h, doOn(crashing, 2), in(withRep(h.Group, 2, off(0, logOf(1, 6)...)), h), true)
	wantActHouse(t, h, doOn(electing, 2), in(led(h.Group, 7, 2), h), true)
	wantNoAct(t, h, doOn(electing, 3))
	wantActHouse(t, h, doOn(advancing, 0), h, true)
	h = mustActHouse(t, h, doOn(copying, 3))
	wantActHouse(t, h, doOn(advancing, 0), in(withRep(h.Group, 1, on(2, logOf(1, 6)...)), h), true)
}

func TestTearHouse(t *testing.T) {
	h := behind(exampleHouse(), 2, "\x80")
	crashed := in(led(withRep(h.Group, 0, off(2, logOf(1, 1, 4)...)), 4, -1), h)
	for _, rec := range []impl.Rec{floorAt(9), longestRec(), no(kindDecide, 3)} {
		e := impl.Entry{Term: 4, Rec: rec}
		frame := logBytes([]impl.Entry{e})
		for keep := range len(frame) + 1 {
			for _, torn := range []bool{false, true} {
				left := modelFall(disk("", frame), keep, torn).Kept
				want := behind(crashed, 0, left)
				wantTear(t, h, rec, keep, torn, want, true)
				wantGoodHouse(t, want, true)
				log := logOf(1, 1, 4)
				if keep == len(frame) && !torn {
					log = append(log, e)
				}
				risen := withDisk(in(withRep(crashed.Group, 0, on(0, log...)), want), 0, logDisk(log, ""))
				wantActHouse(t, want, doOn(starting, 0), risen, true)
			}
		}
		for _, keep := range []int{math.MinInt, -len(frame), -2, -1, len(frame) + 1, len(frame) + 2, mostDisk, 1 << 32, math.MaxInt} {
			wantNoTear(t, h, rec, keep)
		}
	}
}

func TestTearHouseNeedsALeader(t *testing.T) {
	for _, h := range goodHouses() {
		for _, keep := range []int{0, 1, 5} {
			wantNoTear(t, in(led(h.Group, h.Group.Term, -1), h), floorAt(9), keep)
		}
	}
}

func TestTearHouseChecksTheRecord(t *testing.T) {
	h := exampleHouse()
	for _, r := range goodRecs() {
		want, ok := modelTear(h, r, 9, false)
		wantTear(t, h, r, 9, false, want, ok)
	}
	for _, r := range badRecs() {
		for _, keep := range []int{-1, 0, 1, 9} {
			wantNoTear(t, h, r, keep)
		}
	}
}

func TestTearHouseChecksTheLengthOfTheLog(t *testing.T) {
	frame := logBytes([]impl.Entry{entry(7, 9)})
	h := housed(groupOf(7, 0, on(4, longLog(mostEntries, 3)...), on(9, longLog(mostEntries-1, 3)...), on(0)))
	for keep := range len(frame) + 1 {
		wantNoTear(t, h, floorAt(9), keep)
	}
	h = in(led(h.Group, 7, 1), h)
	crashed := in(led(withRep(h.Group, 1, off(9, longLog(mostEntries-1, 3)...)), 7, -1), h)
	for keep := range len(frame) + 1 {
		wantTear(t, h, floorAt(9), keep, false, behind(crashed, 1, frame[:keep]), true)
	}
	log := append(longLog(mostEntries-1, 3), entry(7, 9))
	wantActHouse(t, behind(crashed, 1, frame), doOn(starting, 1), housed(withRep(crashed.Group, 1, on(0, log...))), true)
}

// TestTearHouseOfEveryLeader has leaders at every place, and no other disk changes.
func TestTearHouseOfEveryLeader(t *testing.T) {
	for _, many := range []int{3, 5} {
		for lead := range many {
			g := groupOf(3, lead, newReps(many)...)
			for i := range many {
				g.Reps[i] = on(i%2, longLog(i+1, 2)...)
			}
			for _, keep := range []int{0, 1, len(logBytes(logOf(3)))} {
				want := behind(housed(led(withRep(g, lead, off(lead%2, longLog(lead+1, 2)...)), 3, -1)), lead, logBytes(logOf(3))[:keep])
				wantTear(t, housed(g), floorAt(1), keep, false, want, true)
			}
		}
	}
}

func TestPlayHouseOfEveryKind(t *testing.T) {
	h := behind(exampleHouse(), 2, logBytes([]impl.Entry{entry(3, 9)})+"\x80")
	frame := logBytes([]impl.Entry{entry(4, 8)})
	for _, a := range append(houseActs(doOn(crashing, 1), doOn(starting, 2), doOn(electing, 0), put(floorAt(8)), doOn(copying, 1), doOn(advancing, 0)),
		tear(floorAt(8), 0, false), tear(floorAt(8), len(frame), false), tear(floorAt(8), len(frame), true), impl.HouseAct{Kind: tearing, Rep: 9, Rec: floorAt(8), Keep: 3},
		impl.HouseAct{Kind: crashing, Rep: 1, Rec: impl.Rec{Kind: 9}, Keep: -1, Torn: true}, impl.HouseAct{Kind: putting, Rep: -5, Rec: floorAt(8), Keep: 1 << 40, Torn: true}) {
		want, ok := modelHouseAct(h, a)
		if !ok {
			t.Fatalf("%v is refused", a)
		}
		wantPlayHouse(t, h, []impl.HouseAct{a}, want, true)
		refused := append(houseActs(doOn(0, 1), doOn(crashing, 2), doOn(electing, 1), put(impl.Rec{}), doOn(copying, 2), doOn(starting, 1), doOn(8, 1)), tear(floorAt(0), 0, false), tear(floorAt(8), -1, false), tear(floorAt(8), len(frame)+1, true))
		wantPlayHouse(t, h, refused, h, true)
		wantPlayHouse(t, h, slices.Concat(refused, []impl.HouseAct{a}), want, true)
	}
	for _, kind := range []int{math.MinInt, -1, 0, 8, 9, 256 + tearing, 1<<32 + tearing, 256 + crashing, math.MaxInt} {
		wantPlayHouse(t, h, []impl.HouseAct{{Kind: kind, Rep: 1, Rec: floorAt(8), Keep: 1}}, h, true)
	}
	idle := in(led(h.Group, 4, -1), h)
	wantPlayHouse(t, idle, append(houseActs(put(floorAt(5)), doOn(copying, 1), doOn(advancing, 0)), tear(floorAt(5), 0, false)), idle, true)
}

func TestPlayHousePerformsInOrder(t *testing.T) {
	h, _ := impl.NewHouse(5)
	second, third := len(logBytes([]impl.Entry{entry(1, 2)})), len(logBytes([]impl.Entry{entry(3, 5)}))
	l := slices.Concat(
		houseActs(doOn(electing, 0), put(floorAt(1)), doOn(copying, 1), doOn(copying, 2), doOn(advancing, 0)), []impl.HouseAct{tear(floorAt(2), second, false)},
		houseActs(doOn(electing, 1), put(floorAt(3)), doOn(copying, 3)), []impl.HouseAct{tear(floorAt(4), second-1, true)},
		houseActs(doOn(starting, 0), doOn(crashing, 2), doOn(starting, 1), doOn(electing, 3), doOn(copying, 0)), []impl.HouseAct{tear(floorAt(5), third, false)},
		houseActs(doOn(starting, 3), doOn(starting, 2), doOn(electing, 3), doOn(copying, 4), doOn(copying, 2), put(floorAt(6)), doOn(copying, 2), doOn(copying, 4), doOn(advancing, 0)),
	)
	want := h
	for i, a := range l {
		wantPlayHouse(t, h, l[:i], want, true)
		next, ok := modelHouseAct(want, a)
		if !ok {
			t.Fatalf("action %d is refused", i)
		}
		want = next
	}
	wantPlayHouse(t, h, l, want, true)
	two := []impl.Entry{entry(1, 1), entry(2, 3)}
	log := append(cloneLog(two), entry(3, 5), entry(4, 6))
	end := housed(groupOf(4, 3, on(0, two...), on(0, two...), on(0, log...), on(4, log...), on(0, log...)))
	wantHouse(t, want, true, end, true, "the actions")
}

func TestPlayHouseChecksTheNumberOfActions(t *testing.T) {
	h := exampleHouse()
	wantPlayHouse(t, h, nil, h, true)
	wantPlayHouse(t, h, []impl.HouseAct{}, h, true)
	fresh, _ := impl.NewHouse(3)
	for _, n := range []int{1, 2, mostHouseActs - 1, mostHouseActs} {
		wantPlayHouse(t, h, make([]impl.HouseAct, n), h, true)
		wantPlayHouse(t, fresh, slices.Repeat(houseActs(doOn(electing, 2)), n), housed(groupOf(n, 2, newReps(3)...)), true)
	}
	for _, n := range []int{mostHouseActs + 1, mostHouseActs + 2, 200, 1000} {
		wantPlayHouse(t, h, make([]impl.HouseAct, n), impl.House{}, false)
		wantPlayHouse(t, fresh, slices.Repeat(houseActs(doOn(electing, 2)), n), impl.House{}, false)
	}
}

func TestPlayHouseGoesOnAtTheLimits(t *testing.T) {
	h := housed(groupOf(finalTerm-1, 0, newReps(3)...))
	l := slices.Repeat(houseActs(put(floorAt(9))), mostEntries+5)
	l = slices.Concat(houseActs(doOn(electing, 1), doOn(electing, 2)), l, houseActs(doOn(copying, 0), doOn(advancing, 0), doOn(electing, 2), doOn(crashing, 2)), []impl.HouseAct{tear(floorAt(9), 0, false)})
	log := slices.Repeat([]impl.Entry{entry(finalTerm, 9)}, mostEntries)
	wantPlayHouse(t, h, l, housed(groupOf(finalTerm, 1, on(0, log...), on(mostEntries, log...), off(0))), true)
}

// randomHouse has a group of any kind, and anything that may be behind the log on the disk of a replica that is down.
func randomHouse(r *rand.Rand) impl.House {
	h := housed(randomGroup(r))
	for i, x := range h.Group.Reps {
		if x.Up {
			continue
		}
		low := 1
		if len(x.Log) > 0 {
			low = x.Log[len(x.Log)-1].Term
		}
		if r.IntN(2) == 0 && low <= h.Group.Term {
			h = behind(h, i, logBytes([]impl.Entry{{Term: low + r.IntN(h.Group.Term-low+1), Rec: randomRec(r)}}))
		}
		if r.IntN(2) == 0 {
			h = behind(h, i, tails()[r.IntN(len(tails()))])
		}
	}
	return h
}

func randomHouseAct(r *rand.Rand, h impl.House) impl.HouseAct {
	a := inHouse(randomGroupAct(r, h.Group))
	if r.IntN(4) == 0 {
		frame := frames(entryBytes(impl.Entry{Term: h.Group.Term, Rec: a.Rec}))
		a.Kind, a.Torn = tearing, r.IntN(2) == 0
		a.Keep = []int{-1, 0, 1, r.IntN(len(frame)), len(frame) - 1, len(frame), len(frame), len(frame) + 1}[r.IntN(8)]
	}
	return a
}

func TestHousesAgreeWithTheModel(t *testing.T) {
	r := rand.New(rand.NewPCG(111, 111))
	for range 600 {
		h := randomHouse(r)
		start, l := h, []impl.HouseAct(nil)
		for range 1 + r.IntN(20) {
			wantGoodHouse(t, h, true)
			a := randomHouseAct(r, h)
			next, ok := modelHouseAct(h, a)
			if a.Kind == tearing {
				wantTear(t, h, a.Rec, a.Keep, a.Torn, next, ok)
			} else {
				wantActHouse(t, h, impl.GroupAct{Kind: a.Kind, Rep: a.Rep, Rec: a.Rec}, next, ok)
			}
			if ok {
				h = next
			}
			l = append(l, a)
		}
		wantPlayHouse(t, start, l, h, true)
	}
}

// A fall is what is known of a replica that is down: its log, and the entry that was complete on its disk when it crashed.
type fall struct {
	log     []impl.Entry
	further []impl.Entry
}

// A houseBook follows a house from action to action, and keeps what the promise is about.
type houseBook struct {
	house    impl.House
	falls    []fall
	restarts int
	furthers int
}

// failingHouseAct is any action; the greater calm is, the fewer crashes and elections there are.
func (b *houseBook) failingHouseAct(r *rand.Rand, calm int, time int) impl.HouseAct {
	a := inHouse(failingGroupAct(r, len(b.house.Group.Reps), calm, time))
	if r.IntN(6) == 0 {
		frame := logBytes([]impl.Entry{entry(max(1, b.house.Group.Term), time)})
		return tear(floorAt(time), []int{0, r.IntN(len(frame)), len(frame) - 1, len(frame), len(frame)}[r.IntN(5)], r.IntN(3) == 0)
	}
	return a
}

// follow performs an action and checks all logs and disks afterwards.
func (b *houseBook) follow(t *testing.T, a impl.HouseAct) {
	t.Helper()
	before := b.house
	b.house = mustPlayHouse(t, before, a)
	for i, r := range b.house.Group.Reps {
		switch was := before.Group.Reps[i].Up; {
		case was && !r.Up:
			b.falls[i] = fall{log: before.Group.Reps[i].Log}
			e := impl.Entry{Term: before.Group.Term, Rec: a.Rec}
			if a.Kind == tearing && !a.Torn && a.Keep == len(frames(entryBytes(e))) {
				b.falls[i].further = []impl.Entry{e}
			}
		case !was && r.Up:
			b.restarts++
			b.furthers += len(b.falls[i].further)
			if want := append(cloneLog(b.falls[i].log), b.falls[i].further...); !equalLog(r.Log, want) || r.Sure != 0 {
				t.Fatalf("replica %d starts with %v, sure of %d; want %v", i, r.Log, r.Sure, want)
			}
		}
		b.check(t, i)
	}
}

func (b *houseBook) check(t *testing.T, i int) {
	t.Helper()
	r, d := b.house.Group.Reps[i], b.house.Disks[i]
	want := r.Log
	if !r.Up {
		if !equalLog(r.Log, b.falls[i].log) {
			t.Fatalf("replica %d crashed with %v and has %v", i, b.falls[i].log, r.Log)
		}
		want = append(cloneLog(r.Log), b.falls[i].further...)
	}
	l, ok := impl.OnDisk(d)
	if !equalLog(l, want) || !ok || d.Loose != "" || r.Up && d.Kept != logBytes(want) {
		t.Fatalf("replica %d has the disk %.200q with %v, %v; want %v", i, d.Kept, l, ok, want)
	}
}

// TestTheDisksContainTheLogs does anything in any order.
func TestTheDisksContainTheLogs(t *testing.T) {
	r := rand.New(rand.NewPCG(112, 112))
	restarts, furthers, entries := 0, 0, 0
	for run := range 2000 {
		many := 3 + 2*(run%2)
		h, _ := impl.NewHouse(many)
		b := &houseBook{house: h, falls: make([]fall, many)}
		calm := 1 + r.IntN(12)
		for time := range 80 {
			b.follow(t, b.failingHouseAct(r, calm, time+1))
		}
		wantGoodHouse(t, b.house, true)
		wantSafe(t, b.house.Group, true)
		restarts, furthers = restarts+b.restarts, furthers+b.furthers
		for _, x := range b.house.Group.Reps {
			entries += len(x.Log)
		}
	}
	if restarts < 5000 || furthers < 300 || entries < 4000 {
		t.Errorf("%d restarts, %d of them with a further entry, and %d entries are too few", restarts, furthers, entries)
	}
}

// TestARestartIsAsIfTheLeaderHadCrashedBehindItsWrite compares with a group without disks, where an entry that is complete is appended before the crash.
func TestARestartIsAsIfTheLeaderHadCrashedBehindItsWrite(t *testing.T) {
	r := rand.New(rand.NewPCG(113, 113))
	withLeader := 0
	for run := range 1000 {
		many := 3 + 2*(run%2)
		h, _ := impl.NewHouse(many)
		b := &houseBook{house: h, falls: make([]fall, many)}
		g := h.Group
		for time := range 60 {
			a := b.failingHouseAct(r, 6, time+1)
			b.follow(t, a)
			switch e := (impl.Entry{Term: g.Term, Rec: a.Rec}); {
			case a.Kind != tearing:
				g = mustPlayGroup(t, g, impl.GroupAct{Kind: a.Kind, Rep: a.Rep, Rec: a.Rec})
			case !a.Torn && a.Keep == len(frames(entryBytes(e))):
				g = mustPlayGroup(t, g, put(a.Rec), doOn(crashing, g.Lead))
			case a.Keep <= len(frames(entryBytes(e))):
				g = mustPlayGroup(t, g, doOn(crashing, g.Lead))
			}
			if b.house.Group.Lead != g.Lead || b.house.Group.Term != g.Term {
				t.Fatalf("%d leads in term %d; want %d in term %d", b.house.Group.Lead, b.house.Group.Term, g.Lead, g.Term)
			}
			for i, x := range b.house.Group.Reps {
				if x.Up != g.Reps[i].Up || x.Up && !equalLog(x.Log, g.Reps[i].Log) {
					t.Fatalf("replica %d has %v; want %v", i, x, g.Reps[i])
				}
			}
			if g.Lead != -1 {
				withLeader++
			}
		}
	}
	if withLeader < 5000 {
		t.Errorf("there was a leader after %d actions only", withLeader)
	}
}
