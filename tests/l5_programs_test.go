package tests

import (
	"math/rand/v2"
	"slices"
	"strconv"
	"strings"
	"testing"

	"loop.example/g00850/impl"
)

// The kinds, ends and limits are written out, so that a changed constant of the program is noticed.
const (
	kindRead = 1
	kindPut  = 2
	kindDrop = 3
	kindAdd  = 4
	kindNeed = 5
	kindLack = 6
	kindIs   = 7

	endAsk  = 1
	endGive = 2
	endDone = 3

	mostOps    = 8
	mostBy     = 9999
	mostNumber = 999999
	mostTurns  = 20
)

func opRead(key string) impl.Op { return impl.Op{Kind: kindRead, Key: key} }

func opPut(key string, val string) impl.Op { return impl.Op{Kind: kindPut, Key: key, Val: val} }

func opDrop(key string) impl.Op { return impl.Op{Kind: kindDrop, Key: key} }

func opAdd(key string, by int) impl.Op { return impl.Op{Kind: kindAdd, Key: key, By: by} }

func opNeed(key string, by int) impl.Op { return impl.Op{Kind: kindNeed, Key: key, By: by} }

func opLack(key string) impl.Op { return impl.Op{Kind: kindLack, Key: key} }

func opIs(key string, val string) impl.Op { return impl.Op{Kind: kindIs, Key: key, Val: val} }

func ops(l ...impl.Op) []impl.Op { return l }

// has and lacks are values read, of a key that is there and of one that is not.
func has(key string, val string) impl.Got { return impl.Got{Key: key, Val: val, There: true} }

func lacks(key string) impl.Got { return impl.Got{Key: key} }

func gots(l ...impl.Got) []impl.Got { return l }

// manyGots returns n values read of keys that no program of these tests uses.
func manyGots(n int) []impl.Got {
	l := make([]impl.Got, n)
	for i, key := range manyKeys(n) {
		l[i] = has(key, "1")
	}
	return l
}

func usesVal(kind int) bool { return kind == kindPut || kind == kindIs }

func usesBy(kind int) bool { return kind == kindAdd || kind == kindNeed }

func areOps(l []impl.Op) bool {
	if len(l) > mostOps {
		return false
	}
	for _, o := range l {
		goodVal := o.Val == "" || usesVal(o.Kind) && valForm.MatchString(o.Val)
		goodBy := o.By == 0 || usesBy(o.Kind) && isWithin(o.By, -mostBy, mostBy)
		if !isWithin(o.Kind, kindRead, kindIs) || !keyForm.MatchString(o.Key) || !goodVal || !goodBy {
			return false
		}
	}
	return true
}

func areGots(l []impl.Got) bool {
	seen := map[string]bool{}
	for _, g := range l {
		if seen[g.Key] || !keyForm.MatchString(g.Key) || !isContent(g.Val, !g.There) {
			return false
		}
		seen[g.Key] = true
	}
	return len(l) <= mostOps
}

func areRows(l []impl.Write) bool {
	return areWrites(l) && !slices.ContainsFunc(l, func(w impl.Write) bool { return w.Gone })
}

// A modelRun executes operations on maps. A key that it has neither written nor read is asked for.
type modelRun struct {
	read    map[string]impl.Got
	written map[string]impl.Write
}

func newModelRun(got []impl.Got) modelRun {
	m := modelRun{map[string]impl.Got{}, map[string]impl.Write{}}
	for _, g := range got {
		m.read[g.Key] = g
	}
	return m
}

func (m modelRun) now(key string) (string, bool, bool) {
	if w, ok := m.written[key]; ok {
		return w.Val, !w.Gone, true
	}
	g, ok := m.read[key]
	return g.Val, g.There, ok
}

// do returns the end of the program at this operation, or 0.
func (m modelRun) do(o impl.Op) int {
	val, there, known := m.now(o.Key)
	if !known && o.Kind != kindPut && o.Kind != kindDrop {
		return endAsk
	}
	n, _ := strconv.Atoi(val)
	isNumber := there && numberForm.MatchString(val)
	gives := false
	switch o.Kind {
	case kindPut:
		m.written[o.Key] = store(o.Key, o.Val)
	case kindDrop:
		m.written[o.Key] = drop(o.Key)
	case kindAdd:
		gives = there && !isNumber || !isWithin(n+o.By, -mostNumber, mostNumber)
		m.written[o.Key] = store(o.Key, strconv.Itoa(n+o.By))
	case kindNeed:
		gives = !isNumber || n < o.By
	case kindLack:
		gives = there
	case kindIs:
		gives = !there || val != o.Val
	}
	if gives {
		return endGive
	}
	return 0
}

func (m modelRun) writes() []impl.Write {
	return sortedRows(m.written)
}

func sortedRows(set map[string]impl.Write) []impl.Write {
	var l []impl.Write
	for _, w := range set {
		l = append(l, w)
	}
	slices.SortFunc(l, func(a impl.Write, b impl.Write) int { return strings.Compare(a.Key, b.Key) })
	return l
}

func modelStep(l []impl.Op, got []impl.Got) (int, string, []impl.Write) {
	m := newModelRun(got)
	for _, o := range l {
		switch m.do(o) {
		case endAsk:
			return endAsk, o.Key, nil
		case endGive:
			return endGive, "", nil
		}
	}
	return endDone, "", m.writes()
}

// rowRead returns what a program reads of a key.
func rowRead(rows []impl.Write, key string) impl.Got {
	for _, w := range rows {
		if w.Key == key {
			return has(key, w.Val)
		}
	}
	return lacks(key)
}

// modelAlone does not start again for every value that it reads.
func modelAlone(rows []impl.Write, l []impl.Op) ([]impl.Got, []impl.Write, bool) {
	m := newModelRun(nil)
	var got []impl.Got
	for _, o := range l {
		end := m.do(o)
		if end == endAsk {
			m.read[o.Key] = rowRead(rows, o.Key)
			got = append(got, m.read[o.Key])
			end = m.do(o)
		}
		if end == endGive {
			return got, nil, false
		}
	}
	return got, m.writes(), true
}

func modelPutRows(rows []impl.Write, w []impl.Write) ([]impl.Write, bool) {
	set := map[string]impl.Write{}
	for _, x := range rows {
		set[x.Key] = x
	}
	for _, x := range w {
		set[x.Key] = x
		if x.Gone {
			delete(set, x.Key)
		}
	}
	put := sortedRows(set)
	return put, areRows(put)
}

func modelTurns(rows []impl.Write, l [][]impl.Op) ([]impl.Write, []bool) {
	var done []bool
	for _, program := range l {
		_, w, ok := modelAlone(rows, program)
		if ok {
			var put []impl.Write
			if put, ok = modelPutRows(rows, w); ok {
				rows = put
			}
		}
		done = append(done, ok)
	}
	return rows, done
}

func wantGoodOps(t *testing.T, l []impl.Op, good bool) {
	t.Helper()
	if got := impl.GoodOps(l); got != good {
		t.Errorf("GoodOps(%s) = %v", short(l), got)
	}
}

func wantStep(t *testing.T, l []impl.Op, got []impl.Got, end int, key string, w []impl.Write, ok bool) {
	t.Helper()
	gotEnd, gotKey, gotW, gotOK := impl.StepOps(l, got)
	if gotEnd != end || gotKey != key || !slices.Equal(gotW, w) || gotOK != ok {
		t.Errorf("StepOps(%s, %s) = %d, %q, %v, %v; want %d, %q, %v, %v", short(l), short(got), gotEnd, gotKey, gotW, gotOK, end, key, w, ok)
	}
}

func wantAsk(t *testing.T, l []impl.Op, got []impl.Got, key string) {
	t.Helper()
	wantStep(t, l, got, endAsk, key, nil, true)
}

func wantGive(t *testing.T, l []impl.Op, got ...impl.Got) {
	t.Helper()
	wantStep(t, l, got, endGive, "", nil, true)
}

func wantDone(t *testing.T, l []impl.Op, got []impl.Got, w ...impl.Write) {
	t.Helper()
	wantStep(t, l, got, endDone, "", w, true)
}

func wantAlone(t *testing.T, rows []impl.Write, l []impl.Op, got []impl.Got, w []impl.Write, done bool, ok bool) {
	t.Helper()
	gotGot, gotW, gotDone, gotOK := impl.RunAlone(rows, l)
	if !slices.Equal(gotGot, got) || !slices.Equal(gotW, w) || gotDone != done || gotOK != ok {
		t.Errorf("RunAlone(%s, %s) = %v, %v, %v, %v; want %v, %v, %v, %v", short(rows), short(l), gotGot, gotW, gotDone, gotOK, got, w, done, ok)
	}
}

func wantPutRows(t *testing.T, rows []impl.Write, w []impl.Write, put []impl.Write, ok bool) {
	t.Helper()
	if got, gotOK := impl.PutRows(rows, w); !slices.Equal(got, put) || gotOK != ok {
		t.Errorf("PutRows(%s, %s) = %s, %v; want %s, %v", short(rows), short(w), short(got), gotOK, short(put), ok)
	}
}

func wantKeysWritten(t *testing.T, l []impl.Op, keys []string, ok bool) {
	t.Helper()
	if got, gotOK := impl.KeysWritten(l); !slices.Equal(got, keys) || gotOK != ok {
		t.Errorf("KeysWritten(%s) = %q, %v; want %q, %v", short(l), got, gotOK, keys, ok)
	}
}

func wantTurns(t *testing.T, rows []impl.Write, l [][]impl.Op, end []impl.Write, done []bool, ok bool) {
	t.Helper()
	if gotEnd, gotDone, gotOK := impl.RunInTurn(rows, l); !slices.Equal(gotEnd, end) || !slices.Equal(gotDone, done) || gotOK != ok {
		t.Errorf("RunInTurn(%s, %s) = %s, %v, %v; want %s, %v, %v", short(rows), short(l), short(gotEnd), gotDone, gotOK, short(end), done, ok)
	}
}

func TestProgramsOfTheExample(t *testing.T) {
	l := ops(opNeed("a", 5), opAdd("a", -5), opAdd("b", 5))
	wantOpsText(t, l, "need a 5; add a -5; add b 5", true)
	wantReadOps(t, "need a 5; add a -5; add b 5", l, true)
	wantAsk(t, l, nil, "a")
	wantGive(t, l, has("a", "4"))
	wantAsk(t, l, gots(has("a", "7")), "b")
	after := writes(store("a", "2"), store("b", "5"))
	wantAlone(t, writes(store("a", "7")), l, gots(has("a", "7"), lacks("b")), after, true, true)
	wantTurns(t, writes(store("a", "7")), [][]impl.Op{l, l}, after, []bool{true, false}, true)
}

func TestConstantsOfPrograms(t *testing.T) {
	got := []int{
		impl.OpRead, impl.OpPut, impl.OpDrop, impl.OpAdd, impl.OpNeed, impl.OpLack, impl.OpIs, impl.MaxOps,
		impl.EdAsk, impl.EdGive, impl.EdDone,
	}
	if !slices.Equal(got, []int{1, 2, 3, 4, 5, 6, 7, 8, 1, 2, 3}) {
		t.Errorf("the constants are %v", got)
	}
}

// goodOps has operations of all kinds that meet the limits exactly; badOps exceeds each of them by one, and sets the fields that a kind leaves zero.
func goodOps() []impl.Op {
	longest := strings.Repeat("z", mostKey)
	l := ops(opRead("a"), opPut("a", "1"), opDrop("a"), opAdd("a", 1), opNeed("a", 1), opLack("a"), opIs("a", "1"))
	l = append(l, opRead(longest), opPut(longest, ""), opDrop(longest), opAdd(longest, 0), opNeed(longest, 0), opLack(longest), opIs(longest, ""))
	for _, val := range []string{"0", "-0", "007", "x", "-", ",_.", strings.Repeat("_", mostVal-1), strings.Repeat("-", mostVal)} {
		l = append(l, opPut("b", val), opIs("b", val))
	}
	for _, by := range []int{-mostBy, 1 - mostBy, -1000, -1, 1, 10, mostBy - 1, mostBy} {
		l = append(l, opAdd("b", by), opNeed("b", by))
	}
	for _, key := range []string{".", "/", "0", "9", "read", "t/1.a"} {
		l = append(l, opRead(key), opPut(key, "read"), opDrop(key), opAdd(key, 2), opNeed(key, -2), opLack(key), opIs(key, "x"))
	}
	return l
}

func badOps() []impl.Op {
	l := ops(impl.Op{}, impl.Op{Kind: kindRead}, impl.Op{Key: "a"})
	for _, o := range goodOps() {
		l = append(l, spoiltOps(o)...)
	}
	return l
}

// spoiltOps changes one field of a valid operation at a time.
func spoiltOps(o impl.Op) []impl.Op {
	var l []impl.Op
	for _, kind := range []int{-1, 0, 8, 9, o.Kind + 256, o.Kind + 1<<32, -o.Kind} {
		l = append(l, impl.Op{Kind: kind, Key: o.Key, Val: o.Val, By: o.By})
	}
	for _, key := range badKeys() {
		l = append(l, impl.Op{Kind: o.Kind, Key: key, Val: o.Val, By: o.By})
	}
	vals := badVals()
	if !usesVal(o.Kind) {
		vals = append(vals, "0", "1", "x", o.Key)
	}
	for _, val := range vals {
		l = append(l, impl.Op{Kind: o.Kind, Key: o.Key, Val: val, By: o.By})
	}
	bys := []int{-mostBy - 1, mostBy + 1, -1 << 63, 1<<63 - 1, 1 << 32}
	if !usesBy(o.Kind) {
		bys = append(bys, -mostBy, -1, 1, mostBy)
	}
	for _, by := range bys {
		l = append(l, impl.Op{Kind: o.Kind, Key: o.Key, Val: o.Val, By: by})
	}
	return l
}

// manyOps returns n operations of all kinds, each on a key of its own.
func manyOps(n int) []impl.Op {
	kinds := ops(opRead(""), opPut("", "1"), opDrop(""), opAdd("", 1), opNeed("", -1), opLack(""), opIs("", "1"))
	l := make([]impl.Op, n)
	for i, key := range manyKeys(n) {
		l[i] = kinds[i%len(kinds)]
		l[i].Key = key
	}
	return l
}

func TestGoodOps(t *testing.T) {
	wantGoodOps(t, nil, true)
	wantGoodOps(t, ops(), true)
	for _, o := range goodOps() {
		wantGoodOps(t, ops(o), true)
		wantGoodOps(t, ops(o, o), true)
		wantGoodOps(t, ops(opDrop("a"), o, opRead("a")), true)
	}
	for _, o := range badOps() {
		wantGoodOps(t, ops(o), false)
		wantGoodOps(t, ops(opRead("a"), o), false)
		wantGoodOps(t, ops(o, opRead("a")), false)
	}
}

func TestGoodOpsChecksTheNumberOfOperations(t *testing.T) {
	for n := range 40 {
		wantGoodOps(t, manyOps(n), n <= mostOps)
		wantGoodOps(t, slices.Repeat(ops(opRead("a")), n), n <= mostOps)
	}
	wantGoodOps(t, manyOps(1000), false)
}

func TestGoodOpsLooksAtEveryOperation(t *testing.T) {
	for i := range mostOps {
		for _, bad := range badOps() {
			l := manyOps(mostOps)
			l[i] = bad
			wantGoodOps(t, l, false)
		}
	}
}

func TestInvalidProgramsAreRefused(t *testing.T) {
	rows := writes(store("a", "1"))
	programs := [][]impl.Op{manyOps(mostOps + 1), slices.Repeat(ops(opRead("a")), mostOps+1)}
	for _, o := range badOps() {
		programs = append(programs, ops(o), ops(opPut("a", "2"), o), ops(opLack("a"), o))
	}
	for _, l := range programs {
		wantStep(t, l, nil, 0, "", nil, false)
		wantStep(t, l, gots(has("a", "1")), 0, "", nil, false)
		wantAlone(t, rows, l, nil, nil, false, false)
		wantKeysWritten(t, l, nil, false)
		wantOpsText(t, l, "", false)
		wantTurns(t, rows, [][]impl.Op{l}, nil, nil, false)
	}
}

func TestOpsThatNeedNoValue(t *testing.T) {
	wantDone(t, nil, nil)
	wantDone(t, ops(), gots(has("a", "1")))
	wantDone(t, ops(opPut("a", "1")), nil, store("a", "1"))
	wantDone(t, ops(opPut("a", "")), nil, store("a", ""))
	wantDone(t, ops(opDrop("a")), nil, drop("a"))
	for _, got := range [][]impl.Got{nil, {lacks("a")}, {has("a", "")}, {has("a", "7")}, {has("b", "7")}} {
		wantDone(t, ops(opPut("a", "x")), got, store("a", "x"))
		wantDone(t, ops(opDrop("a")), got, drop("a")) // also of a key that is not there
	}
}

func TestOpsThatNeedAValueAskForIt(t *testing.T) {
	for _, o := range ops(opRead("a"), opAdd("a", 1), opNeed("a", 1), opLack("a"), opIs("a", "1")) {
		wantAsk(t, ops(o), nil, "a")
		wantAsk(t, ops(o), gots(has("b", "1"), lacks("aa")), "a")
		wantAsk(t, ops(opPut("b", "1"), o), nil, "a")
		wantAsk(t, ops(o, opPut("a", "1")), nil, "a") // what is written later is not known yet
		wantAsk(t, ops(o, opIs("b", "1")), nil, "a")
		wantAsk(t, ops(opRead("c"), o), gots(has("c", "")), "a")
		wantAsk(t, ops(opRead("c"), o), gots(has("a", "1")), "c")
	}
	wantAsk(t, ops(opRead("a"), opRead("b"), opRead("c")), gots(lacks("a"), lacks("c")), "b")
}

func TestOpRead(t *testing.T) {
	for _, got := range gots(lacks("a"), has("a", ""), has("a", "x"), has("a", "7")) {
		wantDone(t, ops(opRead("a")), gots(got))
		wantDone(t, ops(opRead("a"), opRead("a")), gots(got))
	}
}

func TestOpAdd(t *testing.T) {
	for _, c := range []struct {
		val string
		by  int
		sum string
	}{
		{"0", 0, "0"}, {"7", -5, "2"}, {"5", -5, "0"}, {"4", -5, "-1"}, {"-4", 5, "1"}, {"-4", 4, "0"}, {"-1", 1, "0"}, {"-1", -1, "-2"}, {"99", 1, "100"},
		{"0", mostBy, "9999"}, {"0", -mostBy, "-9999"}, {"999998", 1, "999999"}, {"-999998", -1, "-999999"}, {"999999", 0, "999999"}, {"-999999", 0, "-999999"},
		{"990000", mostBy, "999999"}, {"-990000", -mostBy, "-999999"}, {"999999", -mostBy, "990000"}, {"-999999", mostBy, "-990000"}, {"100000", -1, "99999"},
	} {
		wantDone(t, ops(opAdd("a", c.by)), gots(has("a", c.val)), store("a", c.sum))
	}
	wantGive(t, ops(opAdd("a", 1)), has("a", "999999"))
	wantGive(t, ops(opAdd("a", -1)), has("a", "-999999"))
	wantGive(t, ops(opAdd("a", mostBy)), has("a", "990001"))
	wantGive(t, ops(opAdd("a", -mostBy)), has("a", "-990001"))
	wantGive(t, ops(opAdd("a", mostBy)), has("a", "999999"))
}

func TestOpAddOfWhatIsNoNumber(t *testing.T) {
	for _, by := range []int{0, 1, -1, mostBy, -mostBy} {
		wantDone(t, ops(opAdd("a", by)), gots(lacks("a")), store("a", strconv.Itoa(by))) // a missing value counts as 0
		for _, val := range []string{"", "x", "-", "-0", "00", "01", "-01", "1000000", "-1000000", "0000001", "1.0", "1-", "a1"} {
			wantGive(t, ops(opAdd("a", by)), has("a", val))
		}
	}
}

func TestOpNeed(t *testing.T) {
	for _, n := range []int{-mostNumber, -mostBy - 1, -mostBy, -1, 0, 1, 4, 5, 6, mostBy, mostBy + 1, mostNumber} {
		for _, by := range []int{-mostBy, -1, 0, 1, 5, mostBy} {
			if n >= by {
				wantDone(t, ops(opNeed("a", by)), gots(has("a", strconv.Itoa(n))))
			} else {
				wantGive(t, ops(opNeed("a", by)), has("a", strconv.Itoa(n)))
			}
		}
	}
	for _, by := range []int{-mostBy, -1, 0, 1, mostBy} {
		wantGive(t, ops(opNeed("a", by)), lacks("a"))
		for _, val := range []string{"", "x", "-", "-0", "05", "1000000", "-1000000", "9999999", "5.0"} {
			wantGive(t, ops(opNeed("a", by)), has("a", val))
		}
	}
}

func TestOpLack(t *testing.T) {
	wantDone(t, ops(opLack("a")), gots(lacks("a")))
	for _, val := range []string{"", "0", "x"} {
		wantGive(t, ops(opLack("a")), has("a", val))
	}
}

func TestOpIs(t *testing.T) {
	vals := []string{"", "0", "-0", "1", "01", "x", "xy", "yx", strings.Repeat("a", mostVal-1), strings.Repeat("a", mostVal)}
	for _, a := range vals {
		wantGive(t, ops(opIs("a", a)), lacks("a")) // also if the value would have to be empty
		for _, b := range vals {
			if a == b {
				wantDone(t, ops(opIs("a", a)), gots(has("a", b)))
			} else {
				wantGive(t, ops(opIs("a", a)), has("a", b))
			}
		}
	}
}

func TestOpsUseWhatTheProgramHasWritten(t *testing.T) {
	for _, got := range [][]impl.Got{nil, {lacks("a")}, {has("a", "")}, {has("a", "3")}, {has("a", "x")}, {has("a", "999999")}} {
		put, wiped := opPut("a", "7"), opDrop("a")
		wantDone(t, ops(put, opRead("a")), got, store("a", "7"))
		wantDone(t, ops(put, opAdd("a", -5)), got, store("a", "2"))
		wantDone(t, ops(put, opAdd("a", 1), opAdd("a", 1)), got, store("a", "9"))
		wantDone(t, ops(put, opNeed("a", 7)), got, store("a", "7"))
		wantGive(t, ops(put, opNeed("a", 8)), got...)
		wantGive(t, ops(put, opLack("a")), got...)
		wantDone(t, ops(put, opIs("a", "7")), got, store("a", "7"))
		wantGive(t, ops(put, opIs("a", "3")), got...)
		wantDone(t, ops(put, wiped), got, drop("a"))
		wantDone(t, ops(put, put, opPut("a", "8")), got, store("a", "8"))
		wantDone(t, ops(wiped, opRead("a")), got, drop("a"))
		wantDone(t, ops(wiped, opAdd("a", -5)), got, store("a", "-5"))
		wantGive(t, ops(wiped, opNeed("a", -mostBy)), got...)
		wantDone(t, ops(wiped, opLack("a")), got, drop("a"))
		wantGive(t, ops(wiped, opIs("a", "")), got...)
		wantGive(t, ops(wiped, opIs("a", "3")), got...)
		wantDone(t, ops(wiped, put), got, store("a", "7"))
		wantDone(t, ops(wiped, wiped), got, drop("a"))
		wantGive(t, ops(opPut("a", ""), opAdd("a", 1)), got...)
		wantGive(t, ops(opPut("a", ""), opLack("a")), got...)
		wantDone(t, ops(opPut("a", ""), opIs("a", "")), got, store("a", ""))
	}
}

func TestOpsUseWhatWasAdded(t *testing.T) {
	got := gots(has("a", "7"))
	wantDone(t, ops(opAdd("a", 1), opIs("a", "8")), got, store("a", "8"))
	wantGive(t, ops(opAdd("a", 1), opIs("a", "7")), got...)
	wantDone(t, ops(opNeed("a", 7), opAdd("a", -1), opNeed("a", 6)), got, store("a", "6"))
	wantGive(t, ops(opAdd("a", -1), opNeed("a", 7)), got...)
	wantDone(t, ops(opAdd("b", 0), opIs("b", "0")), gots(lacks("b")), store("b", "0"))
	wantGive(t, ops(opAdd("b", 0), opLack("b")), lacks("b"))
	wantGive(t, ops(opAdd("a", mostBy), opAdd("a", mostBy), opAdd("a", -1)), has("a", "980002")) // not only the last sum counts
	wantDone(t, ops(opAdd("a", mostBy), opAdd("a", mostBy), opAdd("a", -1)), gots(has("a", "980001")), store("a", "999998"))
}

func TestStepOpsEndsAtTheFirstReason(t *testing.T) {
	wantAsk(t, ops(opRead("a"), opLack("b")), gots(has("b", "1")), "a") // asks before a later operation aborts
	wantGive(t, ops(opLack("b"), opRead("a")), has("b", "1"))           // aborts before a later operation asks
	wantGive(t, ops(opPut("a", "1"), opLack("a"), opRead("b")))
	wantGive(t, ops(opPut("a", "x"), opAdd("a", 1), opPut("a", "1")))
	wantAsk(t, ops(opPut("a", "1"), opDrop("b"), opNeed("c", 1)), nil, "c")
}

func TestWritesAreInIncreasingOrder(t *testing.T) {
	wantDone(t, ops(opPut("c", "1"), opDrop("a"), opPut("b", "2")), nil, drop("a"), store("b", "2"), store("c", "1"))
	wantDone(t, ops(opDrop("b"), opPut("aa", "1"), opPut("a", ""), opDrop("."), opPut("b", "3")), nil, drop("."), store("a", ""), store("aa", "1"), store("b", "3"))
	wantDone(t, ops(opPut("b", "1"), opAdd("a", 3), opAdd("b", 1)), gots(lacks("a")), store("a", "3"), store("b", "2"))
	var l []impl.Op
	for _, w := range slices.Backward(manyWrites(mostOps)) {
		l = append(l, opPut(w.Key, w.Val))
	}
	wantDone(t, l, nil, manyWrites(mostOps)...)
}

func TestStepOpsChecksTheValuesRead(t *testing.T) {
	l := ops(opPut("a", "1"))
	for _, got := range [][]impl.Got{
		nil, {}, {has("b", "")}, {lacks("b")}, {has("b", "1"), has("a", "1")}, {lacks("b"), lacks("a"), has("c", strings.Repeat("_", mostVal))},
		{has(strings.Repeat("z", mostKey), "1")}, manyGots(mostOps - 1), manyGots(mostOps),
	} {
		wantDone(t, l, got, store("a", "1")) // none of them is ever asked for
	}
	bad := [][]impl.Got{
		manyGots(mostOps + 1), manyGots(1000), {{}}, {{There: true}}, {{Key: "b", Val: "1"}}, {has("b", "1"), {Key: "c", Val: "x"}},
		{has("b", "1"), has("b", "1")}, {has("b", "1"), has("b", "2")}, {lacks("b"), lacks("b")}, {has("b", ""), lacks("b")}, {has("b", "1"), lacks("c"), lacks("b")},
	}
	for _, key := range badKeys() {
		bad = append(bad, gots(has(key, "1")), gots(lacks(key)), gots(has("b", "1"), lacks(key)))
	}
	for _, val := range badVals() {
		bad = append(bad, gots(has("b", val)), gots(lacks("b"), has("c", val)))
	}
	for _, got := range bad {
		wantStep(t, l, got, 0, "", nil, false)
		wantStep(t, nil, got, 0, "", nil, false)
		wantStep(t, ops(opPut("a", "1"), opLack("a")), got, 0, "", nil, false)
		wantStep(t, ops(opRead("z")), got, 0, "", nil, false)
	}
}

func TestStepOpsLooksAtEveryValueRead(t *testing.T) {
	for i := range mostOps {
		for _, bad := range gots(impl.Got{}, impl.Got{Key: "b", Val: "1"}, has("B", "1"), has("b", "B")) {
			got := manyGots(mostOps)
			got[i] = bad
			wantStep(t, ops(opRead("a")), got, 0, "", nil, false)
		}
		for j := range i {
			got := manyGots(mostOps)
			got[i].Key = got[j].Key
			wantStep(t, ops(opRead("a")), got, 0, "", nil, false)
		}
		got := manyGots(mostOps)
		got[i] = has("a", "7")
		wantDone(t, ops(opAdd("a", 1)), got, store("a", "8"))
	}
}

func TestRunAlone(t *testing.T) {
	rows := writes(store("a", "7"), store("b", ""), store("c", "x"))
	wantAlone(t, rows, nil, nil, nil, true, true)
	wantAlone(t, nil, nil, nil, nil, true, true)
	wantAlone(t, rows, ops(opRead("c"), opRead("z"), opRead("a")), gots(has("c", "x"), lacks("z"), has("a", "7")), nil, true, true)
	wantAlone(t, rows, ops(opRead("a"), opRead("b"), opRead("a")), gots(has("a", "7"), has("b", "")), nil, true, true) // a is read once
	wantAlone(t, rows, ops(opAdd("a", 1), opAdd("a", 1), opIs("a", "9")), gots(has("a", "7")), writes(store("a", "9")), true, true)
	wantAlone(t, rows, ops(opAdd("d", 3)), gots(lacks("d")), writes(store("d", "3")), true, true)
	wantAlone(t, rows, ops(opLack("d"), opPut("d", "1")), gots(lacks("d")), writes(store("d", "1")), true, true)
	wantAlone(t, rows, ops(opIs("b", ""), opDrop("b"), opDrop("zz")), gots(has("b", "")), writes(drop("b"), drop("zz")), true, true)
	wantAlone(t, nil, ops(opPut("b", "1"), opPut("a", "2")), nil, writes(store("a", "2"), store("b", "1")), true, true)
	wantAlone(t, nil, manyOps(4), gots(lacks("k0000"), lacks("k0003")), writes(store("k0001", "1"), drop("k0002"), store("k0003", "1")), true, true)
}

func TestRunAloneDoesNotReadWhatItHasWritten(t *testing.T) {
	for _, rows := range [][]impl.Write{nil, {store("a", "7")}, {store("a", "")}, {store("a", "x"), store("b", "1")}} {
		wantAlone(t, rows, ops(opPut("a", "3"), opRead("a"), opAdd("a", 1), opNeed("a", 4), opIs("a", "4")), nil, writes(store("a", "4")), true, true)
		wantAlone(t, rows, ops(opDrop("a"), opRead("a"), opLack("a"), opAdd("a", 1)), nil, writes(store("a", "1")), true, true)
		wantAlone(t, rows, ops(opPut("a", "3"), opDrop("a"), opLack("a")), nil, writes(drop("a")), true, true)
		wantAlone(t, rows, ops(opDrop("a"), opNeed("a", 0)), nil, nil, false, true)
		wantAlone(t, rows, ops(opPut("a", "3"), opLack("a")), nil, nil, false, true)
	}
}

func TestRunAloneAfterAnAbort(t *testing.T) {
	rows := writes(store("a", "7"), store("b", "x"))
	wantAlone(t, rows, ops(opPut("c", "1"), opDrop("a"), opLack("b"), opRead("d")), gots(has("b", "x")), nil, false, true)
	wantAlone(t, rows, ops(opAdd("a", 1), opRead("z"), opAdd("b", 1)), gots(has("a", "7"), lacks("z"), has("b", "x")), nil, false, true)
	wantAlone(t, rows, ops(opNeed("a", 8)), gots(has("a", "7")), nil, false, true)
	wantAlone(t, nil, ops(opNeed("a", 0)), gots(lacks("a")), nil, false, true)
	wantAlone(t, nil, ops(opIs("a", "")), gots(lacks("a")), nil, false, true)
}

func TestRunAloneReadsAsMuchAsAProgramCanAskFor(t *testing.T) {
	rows := manyWrites(mostCells)
	var l []impl.Op
	var got []impl.Got
	for _, key := range manyKeys(mostOps) {
		l, got = append(l, opRead(key)), append(got, has(key, "v"))
	}
	wantAlone(t, rows, l, got, nil, true, true)
	slices.Reverse(l)
	slices.Reverse(got)
	wantAlone(t, rows, l, got, nil, true, true)
}

// badRowLists has lists that are no rows, among them valid writes.
func badRowLists() [][]impl.Write {
	l := [][]impl.Write{
		{drop("a")}, {store("a", "1"), drop("b")}, {drop("a"), store("b", "1")}, {{Key: "a", Val: "1", Gone: true}}, {{}},
		{store("a", "1"), store("a", "1")}, {store("a", "1"), store("a", "2")}, {store("b", "1"), store("a", "1")}, {store("a", ""), store("c", ""), store("b", "")},
		manyWrites(mostCells + 1), manyWrites(1000), append(manyWrites(mostCells-1), drop("z")),
	}
	for _, key := range badKeys() {
		l = append(l, writes(store(key, "1")), writes(store("0", "1"), store(key, "1")))
	}
	for _, val := range badVals() {
		l = append(l, writes(store("a", val)), writes(store("a", "1"), store("b", val)))
	}
	return l
}

func TestInvalidRowsAreRefused(t *testing.T) {
	for _, rows := range badRowLists() {
		for _, l := range [][]impl.Op{nil, {opRead("a")}, {opDrop("a")}, {opPut("a", "1"), opLack("a")}} {
			wantAlone(t, rows, l, nil, nil, false, false)
			wantTurns(t, rows, [][]impl.Op{l}, nil, nil, false)
		}
		wantTurns(t, rows, nil, nil, nil, false)
		wantPutRows(t, rows, nil, nil, false)
		wantPutRows(t, rows, writes(drop("a")), nil, false)
		wantPutRows(t, rows, writes(store("a", "1"), drop("b")), nil, false)
	}
}

func TestRowsMeetTheirLimitExactly(t *testing.T) {
	rows := manyWrites(mostCells)
	wantAlone(t, rows, ops(opRead("k0023")), gots(has("k0023", "v")), nil, true, true)
	wantPutRows(t, rows, nil, rows, true)
	wantTurns(t, rows, [][]impl.Op{nil}, rows, []bool{true}, true)
}

func TestPutRows(t *testing.T) {
	rows := writes(store("b", "1"), store("d", "2"))
	for _, c := range []struct{ w, put []impl.Write }{
		{nil, rows},
		{writes(store("a", "x")), writes(store("a", "x"), store("b", "1"), store("d", "2"))},
		{writes(store("b", "x")), writes(store("b", "x"), store("d", "2"))},
		{writes(store("b", "")), writes(store("b", ""), store("d", "2"))},
		{writes(store("c", "x")), writes(store("b", "1"), store("c", "x"), store("d", "2"))},
		{writes(store("d", "x")), writes(store("b", "1"), store("d", "x"))},
		{writes(store("e", "x")), writes(store("b", "1"), store("d", "2"), store("e", "x"))},
		{writes(drop("b")), writes(store("d", "2"))},
		{writes(drop("d")), writes(store("b", "1"))},
		{writes(drop("a"), drop("c"), drop("e")), rows}, // keys that are not there
		{writes(drop("b"), drop("d")), nil},
		{writes(store("a", "x"), drop("b"), store("c", "y"), store("d", "z"), drop("e")), writes(store("a", "x"), store("c", "y"), store("d", "z"))},
	} {
		wantPutRows(t, rows, c.w, c.put, true)
	}
	wantPutRows(t, nil, nil, nil, true)
	wantPutRows(t, nil, writes(drop("a")), nil, true)
	wantPutRows(t, nil, manyWrites(mostCells), manyWrites(mostCells), true)
}

func TestPutRowsChecksTheNumberOfRows(t *testing.T) {
	full := manyWrites(mostCells)
	wantPutRows(t, full, writes(store("a", "1")), nil, false)
	wantPutRows(t, full, writes(store("z", "1")), nil, false)
	wantPutRows(t, full, writes(store("k0005", "1"), store("z", "1")), nil, false)
	wantPutRows(t, full, writes(store("a", "1"), store("b", "1"), drop("k0000")), nil, false)
	wantPutRows(t, full, writes(drop("a"), drop("z")), full, true)
	wantPutRows(t, full[1:], writes(store("z", "1")), append(slices.Clone(full[1:]), store("z", "1")), true)
	wantPutRows(t, full, writes(store("a", "1"), drop("k0000")), append(writes(store("a", "1")), full[1:]...), true) // room is made by a later deletion
	wantPutRows(t, full, writes(drop("k0000"), store("z", "1")), append(slices.Clone(full[1:]), store("z", "1")), true)
	var other []impl.Write
	for _, key := range manyKeys(mostCells) {
		other = append(other, store("z"+key, "w"))
	}
	wantPutRows(t, full, other, nil, false)
	wantPutRows(t, full[:mostCells/2], other[:mostCells/2], append(slices.Clone(full[:mostCells/2]), other[:mostCells/2]...), true)
	wantPutRows(t, full[:mostCells/2], other[:mostCells/2+1], nil, false)
}

func TestPutRowsRefusesInvalidWrites(t *testing.T) {
	rows := writes(store("a", "1"))
	for _, w := range badRowLists() {
		if !areWrites(w) {
			wantPutRows(t, rows, w, nil, false)
			wantPutRows(t, nil, w, nil, false)
		}
	}
	wantPutRows(t, rows, writes(drop("b"), drop("a")), nil, false)
	wantPutRows(t, rows, writes(drop("a"), drop("a")), nil, false)
	wantPutRows(t, rows, writes(store("a", "1"), drop("a")), nil, false)
}

func TestRunInTurn(t *testing.T) {
	rows := writes(store("a", "7"))
	wantTurns(t, nil, nil, nil, nil, true)
	wantTurns(t, rows, nil, rows, nil, true)
	wantTurns(t, rows, [][]impl.Op{nil, {}, {opRead("a")}}, rows, []bool{true, true, true}, true)
	add, wipe, broken := ops(opAdd("a", 1), opAdd("b", 1)), ops(opDrop("a")), ops(opPut("a", "x"), opPut("c", "1"), opLack("a"))
	wantTurns(t, rows, [][]impl.Op{add, add}, writes(store("a", "9"), store("b", "2")), []bool{true, true}, true)
	wantTurns(t, rows, [][]impl.Op{add, broken, add}, writes(store("a", "9"), store("b", "2")), []bool{true, false, true}, true) // nothing of an aborted program is left
	wantTurns(t, rows, [][]impl.Op{broken, broken}, rows, []bool{false, false}, true)
	wantTurns(t, rows, [][]impl.Op{wipe, add, wipe}, writes(store("b", "1")), []bool{true, true, true}, true)
	wantTurns(t, rows, [][]impl.Op{wipe}, nil, []bool{true}, true)
	wantTurns(t, rows, [][]impl.Op{{opPut("b", "x")}, {opIs("b", "x"), opPut("b", "y")}, {opIs("b", "x")}}, writes(store("a", "7"), store("b", "y")), []bool{true, true, false}, true)
}

func TestRunInTurnChecksTheNumberOfPrograms(t *testing.T) {
	rows := writes(store("a", "0"))
	for n := range 50 {
		l := slices.Repeat([][]impl.Op{{opAdd("a", 1)}}, n)
		if n <= mostTurns {
			wantTurns(t, rows, l, writes(store("a", strconv.Itoa(n))), slices.Repeat([]bool{true}, n), true)
		} else {
			wantTurns(t, rows, l, nil, nil, false)
			wantTurns(t, rows, make([][]impl.Op, n), nil, nil, false)
		}
	}
}

func TestRunInTurnRefusesAnInvalidProgramAmongValidOnes(t *testing.T) {
	rows := writes(store("a", "7"))
	good, broken := ops(opAdd("a", 1)), ops(opLack("a"))
	for _, bad := range append([][]impl.Op{manyOps(mostOps + 1)}, ops(badOps()[0]), ops(opRead("A")), ops(opPut("a", "1"), opAdd("b", mostBy+1))) {
		for _, l := range [][][]impl.Op{{bad}, {bad, good}, {good, bad}, {good, bad, good}, {broken, bad}, {good, broken, good, bad}} {
			wantTurns(t, rows, l, nil, nil, false)
		}
	}
	for i := range mostTurns {
		l := make([][]impl.Op, mostTurns)
		l[i] = ops(impl.Op{Kind: kindIs + 1, Key: "a"})
		wantTurns(t, rows, l, nil, nil, false)
	}
}

func TestRunInTurnDoesNotApplyWritesWhoseRowsWouldNotBeValid(t *testing.T) {
	full := manyWrites(mostCells)
	more, room, change := ops(opPut("k0000", "w"), opPut("z", "1")), ops(opDrop("k0023")), ops(opPut("k0001", "w"))
	wantTurns(t, full, [][]impl.Op{more}, full, []bool{false}, true)
	end := slices.Clone(full)
	end[1].Val = "w"
	wantTurns(t, full, [][]impl.Op{more, change, more}, end, []bool{false, true, false}, true)
	end[0].Val, end[23] = "w", store("z", "1")
	wantTurns(t, full, [][]impl.Op{more, change, room, more}, end, []bool{false, true, true, true}, true)
	wantTurns(t, full, [][]impl.Op{more, change, room, more, more, {opPut("y", "")}}, end, []bool{false, true, true, true, true, false}, true)
}

func TestKeysWritten(t *testing.T) {
	wantKeysWritten(t, nil, nil, true)
	for _, o := range ops(opRead("a"), opNeed("a", 1), opLack("a"), opIs("a", "1")) {
		wantKeysWritten(t, ops(o), nil, true)
	}
	for _, o := range ops(opPut("a", "1"), opDrop("a"), opAdd("a", 1)) {
		wantKeysWritten(t, ops(o), []string{"a"}, true)
		wantKeysWritten(t, ops(o, o, o), []string{"a"}, true)
		wantKeysWritten(t, ops(opRead("b"), opPut("c", ""), o), []string{"a", "c"}, true)
	}
	wantKeysWritten(t, ops(opAdd("c", 1), opDrop("b"), opPut("a", "1"), opAdd("b", 1), opRead("d")), []string{"a", "b", "c"}, true)
	wantKeysWritten(t, ops(opLack("a"), opPut("b", ""), opIs("b", "x"), opDrop("aa"), opDrop("/"), opAdd("a", 0)), []string{"/", "a", "aa", "b"}, true)
	wantKeysWritten(t, ops(opPut("a", "1"), opLack("a"), opPut("b", "1")), []string{"a", "b"}, true) // although the program always aborts
	wantKeysWritten(t, ops(opPut("h", ""), opPut("g", ""), opPut("f", ""), opPut("e", ""), opPut("d", ""), opPut("c", ""), opPut("b", ""), opPut("a", "")),
		[]string{"a", "b", "c", "d", "e", "f", "g", "h"}, true)
}

func TestKeysWrittenAgreesWithASetOfKeys(t *testing.T) {
	r := rand.New(rand.NewPCG(5, 1))
	for range 2000 {
		l := randomOps(r)
		set := map[string]bool{}
		for _, o := range l {
			if o.Kind == kindPut || o.Kind == kindDrop || o.Kind == kindAdd {
				set[o.Key] = true
			}
		}
		var keys []string
		for key := range set {
			keys = append(keys, key)
		}
		slices.Sort(keys)
		wantKeysWritten(t, l, keys, true)
	}
}

var programKeys = []string{"a", "b", "b/1", "c", "."}

// contents has values around the limits of numbers, and values that are none.
var contents = []string{"", "0", "1", "2", "7", "-3", "9999", "999999", "-999999", "990000", "-990000", "x", "-0", "01", "1000000"}

func randomRows(r *rand.Rand) []impl.Write {
	set := map[string]impl.Write{}
	for _, key := range programKeys {
		if r.IntN(4) > 0 {
			set[key] = store(key, contents[r.IntN(len(contents))])
		}
	}
	return sortedRows(set)
}

func randomOps(r *rand.Rand) []impl.Op {
	var l []impl.Op
	for range r.IntN(mostOps + 1) {
		o := impl.Op{Kind: 1 + r.IntN(kindIs), Key: programKeys[r.IntN(len(programKeys))]}
		// Most of the operations that abort often are left out, so that many programs are completed.
		if o.Kind >= kindNeed && r.IntN(3) > 0 {
			o.Kind = 1 + r.IntN(kindAdd)
		}
		if usesVal(o.Kind) {
			o.Val = contents[r.IntN(len(contents))]
		}
		if usesBy(o.Kind) {
			o.By = []int{0, 1, -1, 5, -5, mostBy, -mostBy}[r.IntN(7)]
		}
		l = append(l, o)
	}
	return l
}

// checkRun states the promise: stepping with the values read so far asks for them one after the other, and ends as the program ends alone.
func checkRun(t *testing.T, rows []impl.Write, l []impl.Op) (int, bool) {
	t.Helper()
	got, w, done, ok := impl.RunAlone(rows, l)
	if !ok || !areGots(got) || !areWrites(w) || !done && len(w) != 0 {
		t.Fatalf("RunAlone(%v, %v) = %v, %v, %v, %v", rows, l, got, w, done, ok)
	}
	for n, g := range got {
		wantAsk(t, l, got[:n], g.Key)
		if g != rowRead(rows, g.Key) {
			t.Errorf("RunAlone(%v, %v) reads %v", rows, l, g)
		}
	}
	if done {
		wantDone(t, l, got, w...)
	} else {
		wantGive(t, l, got...)
	}
	return len(got), done
}

func TestRunningAloneEqualsSteppingWithTheValuesRead(t *testing.T) {
	r := rand.New(rand.NewPCG(5, 4))
	completed, aborted, asked := 0, 0, 0
	for range 20000 {
		rows, l := randomRows(r), randomOps(r)
		n, done := checkRun(t, rows, l)
		asked += n
		if done {
			completed++
		} else {
			aborted++
		}
		got, w, done := modelAlone(rows, l)
		wantAlone(t, rows, l, got, w, done, true)
	}
	if completed < 5000 || aborted < 5000 || asked < 20000 {
		t.Errorf("%d programs are completed and %d aborted, %d values are asked for", completed, aborted, asked)
	}
}

func TestSteppingAgreesWithTheModel(t *testing.T) {
	r := rand.New(rand.NewPCG(5, 5))
	for range 20000 {
		l := randomOps(r)
		var got []impl.Got
		for _, i := range r.Perm(len(programKeys))[:r.IntN(len(programKeys)+1)] {
			got = append(got, rowRead(randomRows(r), programKeys[i]))
		}
		end, key, w := modelStep(l, got)
		wantStep(t, l, got, end, key, w, true)
	}
}

func TestMoreValuesReadThanAskedForChangeNothing(t *testing.T) {
	r := rand.New(rand.NewPCG(5, 6))
	for range 5000 {
		rows, l := randomRows(r), randomOps(r)
		_, w, done, _ := impl.RunAlone(rows, l)
		var all []impl.Got
		for _, i := range r.Perm(len(programKeys)) {
			all = append(all, rowRead(rows, programKeys[i]))
		}
		if done {
			wantDone(t, l, all, w...)
		} else {
			wantGive(t, l, all...)
		}
	}
}

// The first operation on a key tells whether the program has written it before it needs it.
func TestNoOperationAsksForAKeyThatTheProgramHasWritten(t *testing.T) {
	r := rand.New(rand.NewPCG(5, 7))
	for range 5000 {
		rows, l := randomRows(r), randomOps(r)
		got, _, _, _ := impl.RunAlone(rows, l)
		for _, g := range got {
			i := slices.IndexFunc(l, func(o impl.Op) bool { return o.Key == g.Key })
			if i < 0 || l[i].Kind == kindPut || l[i].Kind == kindDrop {
				t.Errorf("RunAlone(%v, %v) reads %v", rows, l, g)
			}
		}
	}
}

func TestWritesOfACompletedProgramAreOfItsKeysWritten(t *testing.T) {
	r := rand.New(rand.NewPCG(5, 8))
	for range 5000 {
		rows, l := randomRows(r), randomOps(r)
		_, w, done, _ := impl.RunAlone(rows, l)
		if !done {
			continue
		}
		var keys []string
		for _, x := range w {
			keys = append(keys, x.Key)
		}
		wantKeysWritten(t, l, keys, true)
	}
}

func TestPutRowsAgreesWithAMapOfRows(t *testing.T) {
	r := rand.New(rand.NewPCG(5, 9))
	for range 5000 {
		rows := slices.DeleteFunc(randomWrites(r), func(w impl.Write) bool { return w.Gone })
		w := randomWrites(r)
		put, ok := modelPutRows(rows, w)
		wantPutRows(t, rows, w, put, ok)
	}
}

func TestRunInTurnAgreesWithTheModel(t *testing.T) {
	r := rand.New(rand.NewPCG(5, 10))
	for i := range 3000 {
		rows := randomRows(r)
		// Every other time the rows are so many that some writes find no room.
		if i%2 == 0 {
			rows = append(rows, manyWrites(mostCells-len(rows))...)
		}
		var l [][]impl.Op
		for range r.IntN(mostTurns + 1) {
			l = append(l, randomOps(r))
		}
		end, done := modelTurns(rows, l)
		wantTurns(t, rows, l, end, done, true)
	}
}
