package tests

import (
	"fmt"
	"math/rand/v2"
	"regexp"
	"slices"
	"strconv"
	"strings"
	"testing"

	"loop.example/g00850/impl"
)

// The limits are written out, so that a changed constant of the program is noticed.
const (
	kindPrepare = 1
	kindDecide  = 2
	kindDone    = 3
	kindFloor   = 4
	lastTxn     = 60
	lastLead    = 3
	mostParts   = 8
	mostRecText = 400
)

func prepare(txn int, time int, lead int, reads []string, writes ...impl.Write) impl.Rec {
	return impl.Rec{Kind: kindPrepare, Txn: txn, Time: time, Lead: lead, Reads: reads, Writes: writes}
}

func yes(kind int, txn int, time int) impl.Rec {
	return impl.Rec{Kind: kind, Txn: txn, Time: time, Yes: true}
}

func no(kind int, txn int) impl.Rec {
	return impl.Rec{Kind: kind, Txn: txn}
}

func floorAt(time int) impl.Rec {
	return impl.Rec{Kind: kindFloor, Time: time}
}

// longestParts returns the longest keys and values in the greatest number.
func longestParts() ([]string, []impl.Write) {
	reads := make([]string, mostParts)
	writes := make([]impl.Write, mostParts)
	for i := range mostParts {
		reads[i] = strings.Repeat("k", mostKey-1) + strconv.Itoa(i)
		writes[i] = store(reads[i], strings.Repeat("v", mostVal))
	}
	return reads, writes
}

// recOfText returns a record whose text has n bytes, by shortening the values of the longest one.
func recOfText(n int) impl.Rec {
	reads, writes := longestParts()
	r := prepare(lastTxn, lastTrue, lastLead, reads, writes...)
	over := len(recText(r)) - n
	for i := range writes {
		cut := min(max(over, 0), mostVal)
		writes[i].Val = writes[i].Val[cut:]
		over -= cut
	}
	return r
}

// recText formats a record of any validity, kind by kind.
func recText(r impl.Rec) string {
	outcome := "no"
	if r.Yes {
		outcome = fmt.Sprintf("@%d", r.Time)
	}
	switch r.Kind {
	case kindDecide:
		return fmt.Sprintf("decide %d %s", r.Txn, outcome)
	case kindDone:
		return fmt.Sprintf("done %d %s", r.Txn, outcome)
	case kindFloor:
		return fmt.Sprintf("floor @%d", r.Time)
	}
	s := fmt.Sprintf("prepare %d @%d >%d", r.Txn, r.Time, r.Lead)
	for _, key := range r.Reads {
		s += " ?" + key
	}
	for _, w := range r.Writes {
		if w.Gone {
			s += " !" + w.Key + "-"
		} else {
			s += " !" + w.Key + "=" + w.Val
		}
	}
	return s
}

func flagByte(is bool) string {
	if is {
		return "\x01"
	}
	return "\x00"
}

// recBody encodes a record of any validity without its seal.
func recBody(r impl.Rec) string {
	b := numBytes(r.Kind) + numBytes(r.Txn) + numBytes(r.Time) + numBytes(r.Lead) + flagByte(r.Yes)
	b += textsBytes(r.Reads) + numBytes(len(r.Writes))
	for _, w := range r.Writes {
		b += textBytes(w.Key) + flagByte(w.Gone) + textBytes(w.Val)
	}
	return b
}

func equalRec(a impl.Rec, b impl.Rec) bool {
	return a.Kind == b.Kind && a.Txn == b.Txn && a.Time == b.Time && a.Lead == b.Lead && a.Yes == b.Yes &&
		slices.Equal(a.Reads, b.Reads) && slices.Equal(a.Writes, b.Writes)
}

func cloneRec(r impl.Rec) impl.Rec {
	r.Reads = slices.Clone(r.Reads)
	r.Writes = slices.Clone(r.Writes)
	return r
}

func areReads(l []string) bool {
	for i, key := range l {
		if !keyForm.MatchString(key) || i > 0 && key <= l[i-1] {
			return false
		}
	}
	return len(l) <= mostParts
}

func isRec(r impl.Rec) bool {
	timed := isWithin(r.Time, 1, lastTrue)
	many := len(r.Reads) + len(r.Writes)
	if r.Kind == kindPrepare {
		parts := many > 0 && areReads(r.Reads) && len(r.Writes) <= mostParts && areWrites(r.Writes)
		return parts && timed && isWithin(r.Txn, 1, lastTxn) && isWithin(r.Lead, 0, lastLead) && !r.Yes
	}
	if r.Lead != 0 || many != 0 {
		return false
	}
	if r.Kind == kindFloor {
		return timed && r.Txn == 0 && !r.Yes
	}
	outcome := r.Yes && timed || !r.Yes && r.Time == 0
	return (r.Kind == kindDecide || r.Kind == kindDone) && isWithin(r.Txn, 1, lastTxn) && outcome
}

// goodRecs meets the limits exactly; badRecs exceeds each of them by one, and sets the fields that a kind leaves zero.
func goodRecs() []impl.Rec {
	reads, writes := longestParts()
	l := []impl.Rec{
		prepare(3, 20, 1, []string{"a"}, store("b", "7"), drop("c")),
		prepare(1, 1, 0, []string{"a"}), prepare(lastTxn, lastTrue, lastLead, nil, store("a", "")), prepare(2, 5, 2, nil, drop("a")),
		prepare(1, 9, 0, []string{"a", "b"}, drop("a"), store("b", "1")), prepare(1, 9, 0, []string{"b"}, store("a", "1"), drop("c")),
		prepare(1, 9, 0, []string{"a", "aa", "b"}, store("aa", "-"), store("ab", "--")), prepare(10, 100, 0, []string{".", "/", "0", "z"}, store("0", "0,_.-")),
		prepare(59, lastTrue-1, 1, reads), prepare(59, lastTrue-1, 1, nil, writes...), prepare(lastTxn, lastTrue, lastLead, reads, writes...),
		prepare(7, 7, 3, reads[:mostParts-1], writes[:mostParts-1]...), prepare(7, 7, 3, reads[:1], writes...), prepare(7, 7, 3, reads, writes[:1]...),
		prepare(7, 7, 3, nil, store("a", "1"), store("b", "no"), store("prepare", "prepare")),
		floorAt(1), floorAt(9), floorAt(lastTrue - 1), floorAt(lastTrue), recOfText(mostRecText - 1), recOfText(mostRecText), recOfText(mostRecText + 1),
	}
	for _, kind := range []int{kindDecide, kindDone} {
		for _, txn := range []int{1, 2, 10, lastTxn - 1, lastTxn} {
			l = append(l, no(kind, txn), yes(kind, txn, 1), yes(kind, txn, 10), yes(kind, txn, lastTrue))
		}
	}
	return l
}

func badRecs() []impl.Rec {
	var l []impl.Rec
	for _, r := range goodRecs() {
		l = append(l, spoiltRecs(r)...)
	}
	few, nine := []string{"a"}, []string{"a", "b", "c", "d", "e", "f", "g", "h", "i"}
	_, writes := longestParts()
	l = append(l, impl.Rec{}, prepare(1, 1, 0, nil), prepare(1, 1, 0, []string{}, []impl.Write{}...))
	l = append(l, prepare(1, 1, 0, nine), prepare(1, 1, 0, nine, store("a", "1")), prepare(1, 1, 0, manyKeys(1000)))
	l = append(l, prepare(1, 1, 0, nil, append(writes, store("z", ""))...), prepare(1, 1, 0, few, append(writes, drop("z"))...), prepare(1, 1, 0, nil, manyWrites(mostCells)...))
	for _, reads := range [][]string{{"a", "a"}, {"b", "a"}, {"a", "c", "b"}, {"a", "b", "b"}, {"aa", "a"}, {"a", "/"}} {
		l = append(l, prepare(1, 1, 0, reads), prepare(1, 1, 0, reads, drop("a")))
	}
	for _, key := range badKeys() {
		l = append(l, prepare(1, 1, 0, []string{key}), prepare(1, 1, 0, []string{"a", key}), prepare(1, 1, 0, []string{key, "z"}), prepare(1, 1, 0, few, store(key, "1")))
	}
	for _, val := range badVals() {
		l = append(l, prepare(1, 1, 0, few, store("a", val)), prepare(1, 1, 0, nil, store("a", "1"), store("b", val)))
	}
	l = append(l, prepare(1, 1, 0, few, impl.Write{Key: "a", Val: "1", Gone: true}))
	l = append(l, prepare(1, 1, 0, nil, store("a", "1"), store("a", "1")), prepare(1, 1, 0, nil, store("a", "1"), drop("a")), prepare(1, 1, 0, few, drop("b"), drop("a")))
	for _, kind := range []int{kindDecide, kindDone} {
		l = append(l, yes(kind, 1, 0), yes(kind, 1, -1), yes(kind, 1, lastTrue+1), impl.Rec{Kind: kind, Txn: 1, Time: 1}, impl.Rec{Kind: kind, Txn: 1, Time: lastTrue})
	}
	return l
}

// spoiltRecs changes one field of a valid record at a time.
func spoiltRecs(r impl.Rec) []impl.Rec {
	var l []impl.Rec
	add := func(change func(r *impl.Rec)) {
		bad := cloneRec(r)
		change(&bad)
		l = append(l, bad)
	}
	for _, kind := range []int{-1, 0, 5, 6, 257, 1 << 32} {
		add(func(r *impl.Rec) { r.Kind = kind })
	}
	for _, txn := range []int{-1, 0, lastTxn + 1} {
		if r.Kind != kindFloor {
			add(func(r *impl.Rec) { r.Txn = txn })
		}
	}
	if r.Kind == kindFloor {
		add(func(r *impl.Rec) { r.Txn = 1 })
		add(func(r *impl.Rec) { r.Txn = -1 })
	}
	for _, time := range []int{-1, 0, lastTrue + 1} {
		if time != r.Time {
			add(func(r *impl.Rec) { r.Time = time })
		}
	}
	add(func(r *impl.Rec) { r.Lead = -1 })
	add(func(r *impl.Rec) { r.Lead = lastLead + 1 })
	add(func(r *impl.Rec) { r.Yes = !r.Yes })
	if r.Kind != kindPrepare {
		add(func(r *impl.Rec) { r.Lead = 1 })
		add(func(r *impl.Rec) { r.Reads = []string{"a"} })
		add(func(r *impl.Rec) { r.Reads = []string{""} })
		add(func(r *impl.Rec) { r.Writes = writes(store("a", "1")) })
		add(func(r *impl.Rec) { r.Writes = writes(impl.Write{}) })
	}
	return l
}

func wantGoodRec(t *testing.T, r impl.Rec, good bool) {
	t.Helper()
	if got := impl.GoodRec(r); got != good {
		t.Errorf("GoodRec(%s) = %v", short(r), got)
	}
}

func wantRecBytes(t *testing.T, r impl.Rec, b string, ok bool) {
	t.Helper()
	if got, gotOK := impl.RecBytes(r); got != b || gotOK != ok {
		t.Errorf("RecBytes(%s) = %q, %v; want %q, %v", short(r), got, gotOK, b, ok)
	}
}

func wantReadRec(t *testing.T, b string, r impl.Rec, ok bool) {
	t.Helper()
	if got, gotOK := impl.ReadRec(b); !equalRec(got, r) || gotOK != ok {
		t.Errorf("ReadRec(%.500q) = %s, %v; want %s, %v", b, short(got), gotOK, short(r), ok)
	}
}

func wantRecText(t *testing.T, r impl.Rec, s string, ok bool) {
	t.Helper()
	if got, gotOK := impl.RecText(r); got != s || gotOK != ok {
		t.Errorf("RecText(%s) = %q, %v; want %q, %v", short(r), got, gotOK, s, ok)
	}
}

func wantReadRecText(t *testing.T, s string, r impl.Rec, ok bool) {
	t.Helper()
	if got, gotOK := impl.ReadRecText(s); !equalRec(got, r) || gotOK != ok {
		t.Errorf("ReadRecText(%.500q) = %s, %v; want %s, %v", s, short(got), gotOK, short(r), ok)
	}
}

func wantKeysOf(t *testing.T, r impl.Rec, keys []string, ok bool) {
	t.Helper()
	if got, gotOK := impl.KeysOf(r); !slices.Equal(got, keys) || gotOK != ok {
		t.Errorf("KeysOf(%s) = %q, %v; want %q, %v", short(r), got, gotOK, keys, ok)
	}
}

func TestRecsOfTheExample(t *testing.T) {
	r := prepare(3, 20, 1, []string{"a"}, store("b", "7"), drop("c"))
	b := "\x01\x03\x14\x01\x00\x01\x01a\x02\x01b\x00\x017\x01c\x01\x00"
	wantGoodRec(t, r, true)
	wantRecText(t, r, "prepare 3 @20 >1 ?a !b=7 !c-", true)
	wantReadRecText(t, "prepare 3 @20 >1 ?a !b=7 !c-", r, true)
	wantRecBytes(t, r, sealBytes(b), true)
	wantReadRec(t, sealBytes(b), r, true)
	wantKeysOf(t, r, []string{"a", "b", "c"}, true)
	wantRecText(t, no(kindDecide, 2), "decide 2 no", true)
	wantReadRecText(t, "decide 2 no", no(kindDecide, 2), true)
	wantRecText(t, floorAt(9), "floor @9", true)
	wantReadRecText(t, "floor @9", floorAt(9), true)
}

func TestConstantsOfRecs(t *testing.T) {
	got := []int{impl.RcPrepare, impl.RcDecide, impl.RcDone, impl.RcFloor, impl.MaxTxn, impl.MaxGroups}
	if !slices.Equal(got, []int{1, 2, 3, 4, 60, 4}) {
		t.Errorf("the constants are %v", got)
	}
}

func TestGoodRec(t *testing.T) {
	for _, r := range goodRecs() {
		wantGoodRec(t, r, true)
	}
	for _, r := range badRecs() {
		wantGoodRec(t, r, false)
	}
}

func TestGoodRecLooksAtEveryPart(t *testing.T) {
	for i := range mostParts {
		for _, key := range badKeys() {
			reads, writes := longestParts()
			reads[i] = key
			wantGoodRec(t, prepare(1, 1, 0, reads, writes...), false)
			reads, writes = longestParts()
			writes[i].Key = key
			wantGoodRec(t, prepare(1, 1, 0, reads, writes...), false)
		}
		reads, writes := longestParts()
		writes[i].Gone = true
		wantGoodRec(t, prepare(1, 1, 0, reads, writes...), false)
		writes[i].Val = ""
		wantGoodRec(t, prepare(1, 1, 0, reads, writes...), true)
		if i > 0 {
			reads[i] = reads[i-1]
			wantGoodRec(t, prepare(1, 1, 0, reads), false)
		}
	}
}

func TestSameRecComparesEveryField(t *testing.T) {
	all := append(goodRecs(), badRecs()...)
	for _, r := range all {
		if !impl.SameRec(r, cloneRec(r)) {
			t.Errorf("SameRec(%s) of equal records is false", short(r))
		}
	}
	r := impl.Rec{Kind: 1, Txn: 2, Time: 3, Lead: 1, Reads: []string{"a", "b"}, Writes: writes(store("a", "1"), drop("b")), Yes: true}
	for i, change := range []func(*impl.Rec){
		func(r *impl.Rec) { r.Kind = 2 }, func(r *impl.Rec) { r.Txn = 3 }, func(r *impl.Rec) { r.Time = 2 }, func(r *impl.Rec) { r.Lead = 0 },
		func(r *impl.Rec) { r.Yes = false }, func(r *impl.Rec) { r.Reads = nil }, func(r *impl.Rec) { r.Writes = nil },
		func(r *impl.Rec) { r.Reads = r.Reads[:1] }, func(r *impl.Rec) { r.Writes = r.Writes[:1] },
		func(r *impl.Rec) { r.Reads[0] = "b" }, func(r *impl.Rec) { r.Reads[1] = "c" }, func(r *impl.Rec) { r.Writes[0].Key = "b" },
		func(r *impl.Rec) { r.Writes[0].Val = "2" }, func(r *impl.Rec) { r.Writes[1].Gone = false }, func(r *impl.Rec) { r.Writes[1].Val = "1" },
		func(r *impl.Rec) { slices.Reverse(r.Reads) }, func(r *impl.Rec) { slices.Reverse(r.Writes) },
	} {
		other := cloneRec(r)
		change(&other)
		if impl.SameRec(r, other) || impl.SameRec(other, r) {
			t.Errorf("SameRec does not notice change %d", i)
		}
	}
	full := impl.Rec{Reads: []string{}, Writes: []impl.Write{}}
	if !impl.SameRec(full, impl.Rec{}) || !impl.SameRec(impl.Rec{}, full) {
		t.Error("SameRec tells nil from empty")
	}
	if impl.SameRec(impl.Rec{Reads: []string{""}}, impl.Rec{}) || impl.SameRec(impl.Rec{Writes: make([]impl.Write, 1)}, impl.Rec{}) {
		t.Error("SameRec takes zero parts for none")
	}
}

func TestReadRecInvertsRecBytes(t *testing.T) {
	for _, r := range goodRecs() {
		b := sealBytes(recBody(r))
		wantRecBytes(t, r, b, true)
		wantReadRec(t, b, r, true)
	}
	r := rand.New(rand.NewPCG(4, 1))
	for range 2000 {
		x := randomRec(r)
		b := sealBytes(recBody(x))
		wantRecBytes(t, x, b, true)
		wantReadRec(t, b, x, true)
	}
}

func TestReadRecTextInvertsRecText(t *testing.T) {
	for _, r := range goodRecs() {
		wantTextOfRec(t, r)
	}
	r := rand.New(rand.NewPCG(4, 2))
	for range 2000 {
		wantTextOfRec(t, randomRec(r))
	}
}

// wantTextOfRec expects that every valid record has a text, and that only a short one is read.
func wantTextOfRec(t *testing.T, r impl.Rec) {
	t.Helper()
	s := recText(r)
	wantRecText(t, r, s, true)
	if len(s) <= mostRecText {
		wantReadRecText(t, s, r, true)
	} else {
		wantReadRecText(t, s, impl.Rec{}, false)
	}
}

func TestReadRecTextChecksTheNumberOfBytes(t *testing.T) {
	for n := 300; n <= 445; n++ {
		r := recOfText(n)
		if len(recText(r)) != n {
			t.Fatalf("the text has %d bytes instead of %d", len(recText(r)), n)
		}
		wantTextOfRec(t, r)
		wantReadRec(t, sealBytes(recBody(r)), r, true)
	}
	for _, n := range []int{mostRecText, mostRecText + 1, 6000, 100000} {
		wantReadRecText(t, strings.Repeat("a", n), impl.Rec{}, false)
		wantReadRecText(t, strings.Repeat(" ", n), impl.Rec{}, false)
		wantReadRecText(t, "floor @9"+strings.Repeat(" ", n), impl.Rec{}, false)
		wantReadRecText(t, "floor @"+strings.Repeat("9", n), impl.Rec{}, false)
	}
}

func randomParts(r *rand.Rand) ([]string, []impl.Write) {
	var reads []string
	var l []impl.Write
	for _, key := range []string{".", "/x", "0", "a", "a.b", "abcdefghijkl", "b/1", "z"} {
		if r.IntN(2) == 0 {
			reads = append(reads, key)
		}
		switch r.IntN(4) {
		case 0:
			l = append(l, drop(key))
		case 1:
			l = append(l, store(key, []string{"", "-", "0", "17", "-17", "a_b,c.d"}[r.IntN(6)]))
		}
	}
	return reads, l
}

func randomRec(r *rand.Rand) impl.Rec {
	txn, time := 1+r.IntN(lastTxn), 1+r.IntN(lastTrue)>>r.IntN(17)
	switch kind := 1 + r.IntN(6); kind {
	case kindDecide, kindDone:
		if r.IntN(2) == 0 {
			return no(kind, txn)
		}
		return yes(kind, txn, time)
	case kindFloor:
		return floorAt(time)
	}
	reads, l := randomParts(r)
	if len(reads)+len(l) == 0 {
		reads = []string{"only"}
	}
	return prepare(txn, time, r.IntN(lastLead+1), reads, l...)
}

func TestInvalidRecsHaveNoForms(t *testing.T) {
	for _, r := range badRecs() {
		wantRecBytes(t, r, "", false)
		wantRecText(t, r, "", false)
		wantKeysOf(t, r, nil, false)
	}
}

// encodable tells whether the oracle can encode the numbers and texts of an invalid record.
func encodable(r impl.Rec) bool {
	fits := min(r.Kind, r.Txn, r.Time, r.Lead) >= 0 && max(r.Kind, r.Txn, r.Time, r.Lead) <= impl.MaxNum && len(r.Reads) <= impl.MaxTexts
	for _, w := range r.Writes {
		fits = fits && len(w.Key) <= impl.MaxText && len(w.Val) <= impl.MaxText
	}
	return fits
}

func TestReadRecRefusesInvalidRecs(t *testing.T) {
	many := 0
	for _, r := range badRecs() {
		if encodable(r) {
			wantReadRec(t, sealBytes(recBody(r)), impl.Rec{}, false)
			many++
		}
	}
	if many < 500 {
		t.Errorf("only %d invalid records are encoded", many)
	}
}

func TestReadRecTextRefusesInvalidRecs(t *testing.T) {
	for _, r := range badRecs() {
		wantByForm(t, recText(r)) // a field that the kind does not use is not seen in the text
	}
}

func TestReadRecRefusesBytesCutShort(t *testing.T) {
	for _, r := range goodRecs() {
		body := recBody(r)
		b := sealBytes(body)
		for n := range len(b) {
			wantReadRec(t, b[:n], impl.Rec{}, false)
			wantReadRec(t, b[n+1:], impl.Rec{}, false)
		}
		for n := range len(body) {
			wantReadRec(t, sealBytes(body[:n]), impl.Rec{}, false)
			wantReadRec(t, sealBytes(body[n+1:]), impl.Rec{}, false)
		}
	}
}

func TestReadRecRefusesBytesTooMany(t *testing.T) {
	for _, r := range goodRecs() {
		body := recBody(r)
		b := sealBytes(body)
		for _, more := range []string{"\x00", "\x01", "\x80", "\x01a\x00\x00", body, b} {
			wantReadRec(t, b+more, impl.Rec{}, false)
			wantReadRec(t, more+b, impl.Rec{}, false)
			wantReadRec(t, sealBytes(body+more), impl.Rec{}, false)
		}
		wantReadRec(t, sealBytes("\x00"+body), impl.Rec{}, false)
		wantReadRec(t, sealBytes(b), impl.Rec{}, false)
		wantReadRec(t, body, impl.Rec{}, false)
	}
}

func TestReadRecDetectsEveryChangedByte(t *testing.T) {
	for _, r := range goodRecs()[:8] {
		b := []byte(sealBytes(recBody(r)))
		for i, old := range b {
			for by := 1; by < 256; by++ {
				b[i] = old + byte(by)
				wantReadRec(t, string(b), impl.Rec{}, false)
			}
			b[i] = old
		}
	}
}

// TestReadRecAcceptsOnlyBytesOfRecs changes a byte under a seal that fits, so that another record may result.
func TestReadRecAcceptsOnlyBytesOfRecs(t *testing.T) {
	accepted := 0
	for _, r := range goodRecs() {
		body := []byte(recBody(r))
		for i, old := range body {
			for _, c := range []byte{0, 1, 2, 3, 4, 5, 8, 9, 12, 24, 59, 60, 61, 127, 128, 129, 255, 'a', 'z', 'A', ' ', old ^ 1, old + 1, old - 1} {
				body[i] = c
				b := sealBytes(string(body))
				got, ok := impl.ReadRec(b)
				if ok && (!isRec(got) || recBody(got) != string(body)) || !ok && !equalRec(got, impl.Rec{}) {
					t.Fatalf("ReadRec(%q) = %s, %v", b, short(got), ok)
				}
				if ok && c != old {
					accepted++
				}
			}
			body[i] = old
		}
	}
	if accepted < 100 {
		t.Errorf("only %d changes give another record", accepted)
	}
}

func TestReadRecRefusesOtherEncodings(t *testing.T) {
	decide, reads, drops := "\x02\x01\x05\x00\x01\x00\x00", "\x01\x01\x05\x00\x00\x01\x01a\x00", "\x01\x01\x05\x00\x00\x00\x01\x01a\x01\x00"
	wantReadRec(t, sealBytes(decide), yes(kindDecide, 1, 5), true)
	wantReadRec(t, sealBytes(reads), prepare(1, 5, 0, []string{"a"}), true)
	wantReadRec(t, sealBytes(drops), prepare(1, 5, 0, nil, drop("a")), true)
	for _, body := range []string{
		"", "\x02", "\x00\x00\x00\x00\x00\x00\x00",
		"\x82\x00\x01\x05\x00\x01\x00\x00", "\x02\x81\x00\x05\x00\x01\x00\x00", "\x02\x01\x85\x00\x00\x01\x00\x00", // numbers not minimal
		"\x02\x01\x05\x80\x00\x01\x00\x00", "\x02\x01\x05\x00\x01\x80\x00\x00", "\x02\x01\x05\x00\x01\x00\x80\x00",
		"\x02\x01\x05\x00\x02\x00\x00", "\x02\x01\x05\x00\xff\x00\x00", "\x02\x01\x05\x00\x81\x00\x00\x00", "\x02\x01\x00\x00\x02\x00\x00", // Yes is neither 1 nor 0
		"\x01\x01\x05\x00\x00\x00\x01\x01a\x02\x00", "\x01\x01\x05\x00\x00\x00\x01\x01a\xff\x00", "\x01\x01\x05\x00\x00\x00\x01\x01a\x81\x00\x00", // Gone is neither
		"\x01\x01\x05\x00\x00\x00\x01\x01a\x01\x011", "\x01\x01\x05\x00\x00\x00\x01\x00\x01\x00", // a deletion with a value, and without a key
		"\x01\x01\x05\x00\x00\x02\x01a\x00", "\x01\x01\x05\x00\x00\x01\x01a\x01", "\x01\x01\x05\x00\x00\x00\x02\x01a\x01\x00", // fewer than the number
		"\x01\x01\x05\x00\x00\x00\x00\x01a\x01\x00", "\x01\x01\x05\x00\x00\x00\x01\x01a\x01\x00\x01b\x01\x00", // more than the number
		"\x01\x01\x05\x00\x00\x00\x80\x94\xeb\xdc\x03", "\x01\x01\x05\x00\x00\x00\x80\x94\xeb\xdc\x03\x01a\x01\x00", // numbers of writes or reads that none follow
		"\x01\x01\x05\x00\x00\x80\x94\xeb\xdc\x03\x01a\x00", "\x01\x01\x05\x00\x00\x28\x01a\x00",
	} {
		wantReadRec(t, sealBytes(body), impl.Rec{}, false)
	}
	reads9, writes9 := textsBytes(manyKeys(mostParts+1)), numBytes(mostParts+1)
	for _, key := range manyKeys(mostParts + 1) {
		writes9 += textBytes(key) + "\x01\x00"
	}
	wantReadRec(t, sealBytes("\x01\x01\x05\x00\x00"+reads9+"\x00"), impl.Rec{}, false)
	wantReadRec(t, sealBytes("\x01\x01\x05\x00\x00\x00"+writes9), impl.Rec{}, false)
}

var recForms = []*regexp.Regexp{
	kindPrepare: regexp.MustCompile(`\Aprepare (0|[1-9][0-9]{0,5}) @(0|[1-9][0-9]{0,5}) >(0|[1-9][0-9]{0,5})((?: \?[a-z0-9./]+)*)((?: ![a-z0-9./]+(?:-|=[a-z0-9.,_-]*))*)\z`),
	kindDecide:  regexp.MustCompile(`\Adecide (0|[1-9][0-9]{0,5}) (?:no|@(0|[1-9][0-9]{0,5}))\z`),
	kindDone:    regexp.MustCompile(`\Adone (0|[1-9][0-9]{0,5}) (?:no|@(0|[1-9][0-9]{0,5}))\z`),
	kindFloor:   regexp.MustCompile(`\Afloor @(0|[1-9][0-9]{0,5})\z`),
}

// readByForm returns the record of a text, or the zero record; a text of any length is read.
func readByForm(s string) impl.Rec {
	r := impl.Rec{}
	for kind := kindPrepare; kind <= kindFloor; kind++ {
		m := recForms[kind].FindStringSubmatch(s)
		if m == nil {
			continue
		}
		r.Kind = kind
		r.Yes = kind != kindPrepare && kind != kindFloor && !strings.HasSuffix(s, " no")
		if kind == kindFloor {
			m = []string{m[0], "0", m[1]}
		}
		r.Txn, _ = strconv.Atoi(m[1])
		r.Time, _ = strconv.Atoi(m[2])
		if kind == kindPrepare {
			r.Lead, _ = strconv.Atoi(m[3])
			r.Reads = strings.FieldsFunc(m[4], func(c rune) bool { return c == ' ' || c == '?' })
			for _, w := range strings.Fields(m[5]) {
				r.Writes = append(r.Writes, writeByForm(w[1:]))
			}
		}
	}
	if !isRec(r) {
		return impl.Rec{}
	}
	return r
}

func writeByForm(s string) impl.Write {
	if i := strings.IndexByte(s, '='); i >= 0 {
		return store(s[:i], s[i+1:])
	}
	return drop(s[:len(s)-1])
}

// wantByForm compares with the form of the texts.
func wantByForm(t *testing.T, s string) bool {
	t.Helper()
	r := readByForm(s)
	ok := r.Kind != 0 && len(s) <= mostRecText
	if !ok {
		r = impl.Rec{}
	}
	wantReadRecText(t, s, r, ok)
	return ok
}

func TestReadRecTextAcceptsOnlyTextsOfRecs(t *testing.T) {
	accepted, refused := 0, 0
	for _, r := range goodRecs() {
		s := recText(r)
		for i := range len(s) + 1 {
			texts := []string{s[:i], s[i:]}
			for _, c := range []string{"", " ", "0", "1", "9", "a", "z", "@", ">", "?", "!", "=", "-", "+", ".", "_", "A", "\x00", "\n", "\t", "\xff", "\u0661", " ?a", " !b-", "no"} {
				texts = append(texts, s[:i]+c+s[i:], s[:max(i-1, 0)]+c+s[i:])
			}
			for _, x := range texts {
				if wantByForm(t, x) {
					accepted++
				} else {
					refused++
				}
			}
		}
	}
	if accepted < 1000 || refused < 1000 {
		t.Errorf("%d texts are accepted and %d refused", accepted, refused)
	}
}

func wantNoRecTexts(t *testing.T, texts ...string) {
	t.Helper()
	for _, s := range texts {
		wantReadRecText(t, s, impl.Rec{}, false)
	}
}

func TestReadRecTextRefusesOtherTexts(t *testing.T) {
	wantNoRecTexts(t,
		"", " ", "no", "0", "@9", "a", "prepare", "decide", "done", "floor", "prepare ", "floor ", "floor  ",
		"Floor @9", "FLOOR @9", "flooor @9", "floor@9", "floor 9", "floor @", "floor @ 9", "floor @9 ", " floor @9",
		"floor  @9", "floor\t@9", "floor\n@9", "floor @9\n", "floor @9\x00", "floor @\u0669", "floor @\xff", "floor @9a",
		"floor @09", "floor @+9", "floor @-9", "floor @0", "floor @00", "floor @-0", "floor @9.0", "floor @1e3", "floor @1_0", "floor @0x9",
		"floor @100001", "floor @0100000", "floor @1000000", "floor @4294967305", "floor @9223372036854775808", "floor @18446744073709551625",
		"floor 1 @9", "floor @9 1", "floor @9 @9", "floor @8 @9", "floor @9 no", "floor no", "floor no @9",
		"floor @9 >0", "floor @9 ?a", "floor @9 !a-", "floor @9 floor @9",
	)
}

func TestReadRecTextRefusesOtherTextsOfOutcomes(t *testing.T) {
	for _, word := range []string{"decide", "done"} {
		for _, rest := range []string{
			"", " ", " 2", " 2 ", " no", " @9", " no 2", " @9 2", " no no", " 2 no ", " 2 @9 ", "  2 no", " 2  no", " 2  @9", "2 no", " 2no", " 2@9",
			" 02 no", " 002 no", " +2 no", " -2 no", " 0 no", " -0 no", " 61 no", " 02 @9", " 61 @9", " 0 @9", " @2 no", " x no", " 4294967298 no",
			" 2 yes", " 2 NO", " 2 n", " 2 noo", " 2 9", " 2 @", " 2 @0", " 2 @09", " 2 @+9", " 2 @-9", " 2 @100001", " 60 @100001",
			" 2 no no", " 2 no @9", " 2 @9 no", " 2 @9 @9", " 2 @8 @9", " 2 2 no", " 1 2 no", " 2 2 @9", " 2 no 2",
			" 2 @9 >1", " 2 @9 >0", " 2 no >0", " 2 no >1", " 2 no ?a", " 2 @9 ?a", " 2 no !a-", " 2 @9 !a=1", " 2 no\x00", " 2 @9\n",
		} {
			wantNoRecTexts(t, word+rest, " "+word+rest, strings.ToUpper(word)+rest)
		}
		wantNoRecTexts(t, "2 "+word+" no", "2 no "+word, word+" "+word+" 2 no", "no "+word+" 2")
	}
}

func TestReadRecTextRefusesOtherStartsOfPrepareRecs(t *testing.T) {
	wantReadRecText(t, "prepare 3 @20 >1 ?a", prepare(3, 20, 1, []string{"a"}), true)
	for _, start := range []string{
		"prepare 3 @20", "prepare 3 >1", "prepare @20 >1", "3 @20 >1", "prepare 3 no >1", "prepare 3 @20 no >1", "prepare 3 @20 >1 no", // parts are missing
		"prepare 3 >1 @20", "prepare @20 3 >1", "prepare >1 3 @20", "3 prepare @20 >1", // in another order
		"prepare 03 @20 >1", "prepare 3 @020 >1", "prepare 3 @20 >01", "prepare 3 @20 >00", "prepare 3 @20 >-0", // leading zeros and signs
		"prepare +3 @20 >1", "prepare 3 @+20 >1", "prepare 3 @20 >+1", "prepare -3 @20 >1", "prepare 3 @-20 >1", "prepare 3 @20 >-1",
		"prepare 0 @20 >1", "prepare 61 @20 >1", "prepare 3 @0 >1", "prepare 3 @100001 >1", "prepare 3 @20 >4", // out of range
		"prepare 3 @20 >", "prepare 3 @ >1", "prepare  @20 >1", "prepare 3 @20 >x", "prepare x @20 >0", "prepare 3 @20 > 1", "prepare 3 @ 20 >1",
		"prepare  3 @20 >1", "prepare 3  @20 >1", "prepare 3 @20  >1", "prepare 3 @20 >1 ", " prepare 3 @20 >1", // blanks
		"prepare3 @20 >1", "prepare 3@20 >1", "prepare 3 @20>1", "prepare\t3 @20 >1",
		"prepare 3 3 @20 >1", "prepare 2 3 @20 >1", "prepare 3 @20 @20 >1", "prepare 3 @19 @20 >1", "prepare 3 @20 >1 >1", "prepare 3 @20 >0 >1", // twice
		"prepare prepare 3 @20 >1", "decide 3 @20 >1", "done 3 @20 >1", "floor 3 @20 >1", "propose 3 @20 >1", "Prepare 3 @20 >1", " 3 @20 >1",
	} {
		wantNoRecTexts(t, start+" ?a", start+" !a-", start+" ?a !a=1")
	}
}

func TestReadRecTextRefusesOtherPartsOfPrepareRecs(t *testing.T) {
	for _, end := range []string{
		"", " ", "?a", "!a-", "  ?a", "  !a-", " ?a ", " ?a  !b-", " ?a?b", " ?a!b-", " !a-!b-", " !a-?b", " ?a ?", " ?a !", // blanks
		" ? a", " ! a-", " !a -", " !a= 1", " !a =1", " ?a b", " a", " a=1", " a-",
		" !a- ?a", " ?a !a- ?b", " !b- ?a", " ?a >1 !a-", " ?b ?a", " !b- !a-", " ?a ?c ?b", // another order
		" ?a ?a", " !a- !a-", " !a=1 !a=1", " !a=1 !a-", " ?a ?a !b-",
		" ?a ?b ?c ?d ?e ?f ?g ?h ?i", " !a- !b- !c- !d- !e- !f- !g- !h- !i-", // nine
		" ?", " !", " !-", " !=", " !=1", " !a", " !a--", " !a-=", " !a-=1", " !a-1", " !a=1=2", " !a==", " !a1", // forms of other words
		" ??a", " !!a-", " ?!a", " !?a-", " ?a-", " ?a=1", " @20", " >1 ?a", " no", " ?a no",
		" ?A", " !A-", " ?_", " !a=A", " !a=/", " !a=+1", " ?\xff", " ?\u00e9", " ?abcdefghijklm", " !abcdefghijklm-", " !a=" + strings.Repeat("v", mostVal+1),
	} {
		wantNoRecTexts(t, "prepare 3 @20 >1"+end)
	}
}

func TestReadRecTextRefusesWordsInAnotherOrder(t *testing.T) {
	r := rand.New(rand.NewPCG(4, 3))
	for _, x := range goodRecs() {
		words := strings.Split(recText(x), " ")
		for range 50 {
			r.Shuffle(len(words), func(i int, j int) { words[i], words[j] = words[j], words[i] })
			wantByForm(t, strings.Join(words, " "))
		}
		for i := range words {
			wantByForm(t, strings.Join(slices.Insert(slices.Clone(words), i, words[i]), " "))
			wantByForm(t, strings.Join(slices.Delete(slices.Clone(words), i, i+1), " "))
		}
	}
}

func TestReadRecTextReadsValuesThatLookLikeOtherParts(t *testing.T) {
	wantReadRecText(t, "prepare 1 @1 >0 !a=", prepare(1, 1, 0, nil, store("a", "")), true)
	wantReadRecText(t, "prepare 1 @1 >0 !a=-", prepare(1, 1, 0, nil, store("a", "-")), true)
	wantReadRecText(t, "prepare 1 @1 >0 !a=b-", prepare(1, 1, 0, nil, store("a", "b-")), true)
	wantReadRecText(t, "prepare 1 @1 >0 !no=no !prepare-", prepare(1, 1, 0, nil, store("no", "no"), drop("prepare")), true)
	wantReadRecText(t, "prepare 1 @1 >0 ?no ?prepare", prepare(1, 1, 0, []string{"no", "prepare"}), true)
	wantReadRecText(t, "prepare 1 @1 >0 ?1 !01=+1", impl.Rec{}, false)
	wantReadRecText(t, "prepare 1 @1 >0 ?1 !01=-1", prepare(1, 1, 0, []string{"1"}, store("01", "-1")), true)
}

func TestKeysOf(t *testing.T) {
	for _, c := range []struct {
		r    impl.Rec
		keys []string
	}{
		{prepare(1, 1, 0, []string{"a"}), []string{"a"}},
		{prepare(1, 1, 0, nil, drop("a")), []string{"a"}},
		{prepare(1, 1, 0, nil, store("a", "")), []string{"a"}},
		{prepare(1, 1, 0, []string{"a"}, store("a", "1")), []string{"a"}},
		{prepare(1, 1, 0, []string{"b"}, store("a", "1"), drop("c")), []string{"a", "b", "c"}},
		{prepare(1, 1, 0, []string{"a", "c"}, drop("b"), drop("d")), []string{"a", "b", "c", "d"}},
		{prepare(1, 1, 0, []string{"c", "d"}, drop("a"), drop("b")), []string{"a", "b", "c", "d"}},
		{prepare(1, 1, 0, []string{"a", "b", "c"}, drop("a"), drop("b"), drop("c")), []string{"a", "b", "c"}},
		{prepare(1, 1, 0, []string{"a", "aa"}, drop("/"), drop("a"), drop("ab")), []string{"/", "a", "aa", "ab"}},
		{no(kindDecide, 1), nil}, {yes(kindDecide, 1, 5), nil}, {no(kindDone, 1), nil}, {yes(kindDone, 1, 5), nil}, {floorAt(5), nil},
	} {
		wantKeysOf(t, c.r, c.keys, true)
	}
	keys := manyKeys(2 * mostParts)
	wantKeysOf(t, prepare(1, 1, 0, keys[:mostParts], manyWrites(2 * mostParts)[mostParts:]...), keys, true)
	wantKeysOf(t, prepare(1, 1, 0, keys[mostParts:], manyWrites(mostParts)...), keys, true)
}

func TestKeysOfAgreesWithASetOfKeys(t *testing.T) {
	r := rand.New(rand.NewPCG(4, 4))
	for range 2000 {
		x := randomRec(r)
		set := map[string]bool{}
		for _, key := range x.Reads {
			set[key] = true
		}
		for _, w := range x.Writes {
			set[w.Key] = true
		}
		var keys []string
		for key := range set {
			keys = append(keys, key)
		}
		slices.Sort(keys)
		wantKeysOf(t, x, keys, true)
	}
}
