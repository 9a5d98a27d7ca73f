package tests

import (
	"fmt"
	"math"
	"slices"
	"strings"
	"testing"

	"loop.example/g00850/impl"
)

// oddPrograms has valid and invalid programs, around the limits and far from them.
func oddPrograms() [][]impl.Op {
	l := [][]impl.Op{
		nil, {}, {{}}, manyOps(mostOps), manyOps(mostOps + 1), make([]impl.Op, mostOps), make([]impl.Op, 100000), slices.Repeat(ops(opRead("a")), 100000),
		{opNeed("a", 5), opAdd("a", -5), opAdd("b", 5)}, {opPut("a", ""), opAdd("a", 1)}, {opDrop("k0003"), opPut("zz", "1"), opAdd("zz", mostBy)},
		slices.Repeat(ops(opAdd("a", mostBy)), mostOps), slices.Repeat(ops(opAdd("a", -mostBy)), mostOps),
	}
	for _, kind := range []int{math.MinInt, -7, -1, 0, 1, 2, 3, 4, 5, 6, 7, 8, 9, 257, 1<<32 + 1, math.MaxInt} {
		for _, by := range []int{math.MinInt, math.MinInt + 1, -mostBy - 1, -mostBy, -1, 0, 1, mostBy, mostBy + 1, math.MaxInt} {
			for _, val := range []string{"", "1", "\xff", strings.Repeat("1", mostVal), strings.Repeat("1", 50000)} {
				l = append(l, ops(impl.Op{Kind: kind, Key: "a", Val: val, By: by}), ops(opRead("b"), impl.Op{Kind: kind, Key: "b", Val: val, By: by}))
			}
		}
	}
	for _, key := range []string{"", "\x00", "\xff", "A", "\u00e9", strings.Repeat("a", mostKey+1), strings.Repeat("a", 50000)} {
		l = append(l, ops(opRead(key)), ops(opPut(key, "1")), ops(opDrop("a"), opAdd(key, 1)))
	}
	return l
}

// oddGots has valid and invalid lists of values read.
func oddGots() [][]impl.Got {
	l := [][]impl.Got{
		nil, {}, {{}}, {{There: true}}, {{Key: "a", Val: "1"}}, {lacks("a")}, {has("a", "")}, {has("a", "7"), lacks("b")}, {has("a", "x"), has("b", "1")},
		{has("a", "1"), has("a", "1")}, manyGots(mostOps), manyGots(mostOps + 1), make([]impl.Got, mostOps), make([]impl.Got, 100000),
		slices.Repeat(gots(has("a", "1")), 100000), {has("a", "999999"), has("b", "-999999")},
	}
	for _, s := range []string{"\x00", "\xff", "A", "\u00e9", strings.Repeat("1", mostVal), strings.Repeat("1", mostVal+1), strings.Repeat("1", 50000)} {
		l = append(l, gots(has("a", s)), gots(has(s, "1")), gots(lacks("b"), lacks(s)))
	}
	return l
}

// oddRows leaves out most of the odd writes, which are tried in all combinations by PutRows.
func oddRows() [][]impl.Write {
	l := oddWrites()[:15]
	return append(l, writes(store("a", "7")), writes(store("a", "x"), store("b", "-1")), writes(store("\xff", "1")), writes(store("a", strings.Repeat("1", 50000))))
}

func TestProgramsAcceptAllArguments(t *testing.T) {
	for _, l := range oddPrograms() {
		good := areOps(l)
		wantGoodOps(t, l, good)
		if good {
			s := opsText(l)
			wantOpsText(t, l, s, true)
			wantReadOps(t, s, l, true)
		} else {
			wantOpsText(t, l, "", false)
			wantKeysWritten(t, l, nil, false)
		}
		if keys, ok := impl.KeysWritten(l); ok != good || len(keys) > mostOps || !slices.IsSorted(keys) {
			t.Errorf("KeysWritten(%s) = %q, %v", short(l), keys, ok)
		}
	}
}

func TestStepOpsAcceptsAllArguments(t *testing.T) {
	programs := oddPrograms()
	for _, got := range oddGots() {
		good := areGots(got)
		for _, l := range programs {
			if !good || !areOps(l) {
				wantStep(t, l, got, 0, "", nil, false)
				continue
			}
			end, key, w := modelStep(l, got)
			wantStep(t, l, got, end, key, w, true)
		}
	}
}

func TestRunsAcceptAllArguments(t *testing.T) {
	lists := oddRows()
	for _, l := range oddPrograms() {
		good := areOps(l)
		for _, rows := range lists {
			if !good || !areRows(rows) {
				wantAlone(t, rows, l, nil, nil, false, false)
				wantTurns(t, rows, [][]impl.Op{l, nil}, nil, nil, false)
				continue
			}
			got, w, done := modelAlone(rows, l)
			wantAlone(t, rows, l, got, w, done, true)
			turns := [][]impl.Op{l, nil, l}
			end, dones := modelTurns(rows, turns)
			wantTurns(t, rows, turns, end, dones, true)
		}
	}
	wantTurns(t, nil, make([][]impl.Op, 100000), nil, nil, false)
	wantTurns(t, make([]impl.Write, 100000), make([][]impl.Op, mostTurns), nil, nil, false)
}

func TestPutRowsAcceptsAllArguments(t *testing.T) {
	for _, rows := range oddWrites() {
		good := areRows(rows)
		for _, w := range oddWrites() {
			if !good || !areWrites(w) {
				wantPutRows(t, rows, w, nil, false)
				continue
			}
			put, ok := modelPutRows(rows, w)
			if !ok {
				put = nil
			}
			wantPutRows(t, rows, w, put, ok)
		}
	}
}

func TestReadersOfProgramsAcceptAllArguments(t *testing.T) {
	for _, s := range oddStrings() {
		if n, ok := impl.NumberIn(s); ok && fmt.Sprint(n) != s || !ok && n != 0 {
			t.Errorf("NumberIn(%.80q) = %d, %v", s, n, ok)
		}
		for _, before := range []string{"", "; ", "read ", "read a; ", "put a ", "put a", "add a ", "add a -", "is a 1; ", "lack a;"} {
			wantOpsByForm(t, before+s)
		}
	}
}

// crowdedRun returns rows, operations, values read and writes that are parts of longer slices; everything behind them is valid, too, and would be noticed.
func crowdedRun() ([]impl.Write, []impl.Op, []impl.Got, []impl.Write) {
	rows := writes(store("a", "7"), store("c", "x"), store("d", "behind"), store("e", "behind"))
	l := ops(opAdd("a", 1), opRead("b"), opPut("c", "y"), opDrop("a"), opLack("c"))
	got := gots(has("a", "7"), lacks("b"), has("d", "behind"), has("e", "behind"))
	w := writes(store("b", "1"), drop("c"), store("d", "behind"), drop("e"))
	return rows[:2], l[:3], got[:2], w[:2]
}

// wholeRun returns copies of all that crowdedRun has, behind the lengths as well.
func wholeRun(rows []impl.Write, l []impl.Op, got []impl.Got, w []impl.Write) ([]impl.Write, []impl.Op, []impl.Got, []impl.Write) {
	return slices.Clone(rows[:cap(rows)]), slices.Clone(l[:cap(l)]), slices.Clone(got[:cap(got)]), slices.Clone(w[:cap(w)])
}

func TestProgramsNeitherChangeNorReadBehindTheirArguments(t *testing.T) {
	rows, l, got, w := crowdedRun()
	turns := [][]impl.Op{l, nil, ops(opLack("a")), ops(opDrop("c"))}
	rowsBefore, opsBefore, gotsBefore, writesBefore := wholeRun(rows, l, got, w)
	written := writes(store("a", "8"), store("c", "y"))
	for range 2 {
		wantGoodOps(t, l, true)
		wantDone(t, l, got, written...)
		wantAsk(t, l, got[:1], "b")
		wantAsk(t, l, got[:0], "a")
		wantAlone(t, rows, l, gots(has("a", "7"), lacks("b")), written, true, true)
		wantAlone(t, rows, ops(opRead("d")), gots(lacks("d")), nil, true, true)
		wantAlone(t, rows[:0], l, gots(lacks("a"), lacks("b")), writes(store("a", "1"), store("c", "y")), true, true)
		wantPutRows(t, rows, w, writes(store("a", "7"), store("b", "1")), true)
		wantPutRows(t, rows[:0], w, writes(store("b", "1")), true)
		wantPutRows(t, rows, w[:0], rows, true)
		wantKeysWritten(t, l, []string{"a", "c"}, true)
		wantKeysWritten(t, l[:0], nil, true)
		wantOpsText(t, l, "add a 1; read b; put c y", true)
		wantTurns(t, rows, turns[:2], written, []bool{true, true}, true)
		wantTurns(t, rows, turns, writes(store("a", "8")), []bool{true, true, false, true}, true)
		wantTurns(t, rows, turns[:0], rows, nil, true)
		rowsAfter, opsAfter, gotsAfter, writesAfter := wholeRun(rows, l, got, w)
		if !slices.Equal(rowsAfter, rowsBefore) || !slices.Equal(opsAfter, opsBefore) || !slices.Equal(gotsAfter, gotsBefore) || !slices.Equal(writesAfter, writesBefore) {
			t.Fatalf("%v, %v, %v and %v; before %v, %v, %v and %v", rowsAfter, opsAfter, gotsAfter, writesAfter, rowsBefore, opsBefore, gotsBefore, writesBefore)
		}
	}
	if len(turns[1]) != 0 || !slices.Equal(turns[2], ops(opLack("a"))) || !slices.Equal(turns[3], ops(opDrop("c"))) {
		t.Errorf("the programs become %v", turns)
	}
}

// A list of what a slice of a result or of an argument holds is compared and overwritten, whatever its type.
type heldSlice interface {
	text() string
	spoil()
}

type sliceOf[T any] []T

func (l sliceOf[T]) text() string {
	return fmt.Sprintf("%q", fmt.Sprint([]T(l)))
}

// spoil overwrites what is behind the length as well.
func (l sliceOf[T]) spoil() {
	var zero T
	l = l[:cap(l)]
	for i := range l {
		l[i] = zero
	}
}

func slicesIn(rows []impl.Write, l []impl.Op, got []impl.Got, w []impl.Write) []heldSlice {
	return []heldSlice{sliceOf[impl.Write](rows), sliceOf[impl.Op](l), sliceOf[impl.Got](got), sliceOf[impl.Write](w)}
}

// resultsOfRun returns every slice of the results of all functions for these arguments.
func resultsOfRun(t *testing.T, rows []impl.Write, l []impl.Op, got []impl.Got, w []impl.Write) []heldSlice {
	t.Helper()
	var results []heldSlice
	add := func(name string, ok bool, l ...heldSlice) {
		if !ok {
			t.Fatalf("%s fails", name)
		}
		results = append(results, l...)
	}
	_, _, stepped, ok := impl.StepOps(l, got)
	add("StepOps", ok, sliceOf[impl.Write](stepped))
	read, written, _, ok := impl.RunAlone(rows, l)
	add("RunAlone", ok, sliceOf[impl.Got](read), sliceOf[impl.Write](written))
	read, written, _, ok = impl.RunAlone(rows, append(slices.Clone(l), opNeed("c", 1)))
	add("RunAlone", ok, sliceOf[impl.Got](read), sliceOf[impl.Write](written))
	for _, x := range [][]impl.Write{w, w[:0], nil} {
		put, ok := impl.PutRows(rows, x)
		add("PutRows", ok, sliceOf[impl.Write](put))
		put, ok = impl.PutRows(nil, x)
		add("PutRows", ok, sliceOf[impl.Write](put))
	}
	keys, ok := impl.KeysWritten(l)
	add("KeysWritten", ok, sliceOf[string](keys))
	again, ok := impl.ReadOps(opsText(l))
	add("ReadOps", ok, sliceOf[impl.Op](again))
	for _, turns := range [][][]impl.Op{nil, {}, {nil}, {l}, {l, nil, l}, {{opLack("a")}}, {{opRead("a")}}, {{opDrop("a")}, {opDrop("c")}}} {
		end, done, ok := impl.RunInTurn(rows, turns)
		add("RunInTurn", ok, sliceOf[impl.Write](end), sliceOf[bool](done))
	}
	return results
}

func textsOf(l []heldSlice) []string {
	var texts []string
	for _, x := range l {
		texts = append(texts, x.text())
	}
	return texts
}

// wantNewMemory overwrites one slice after the other.
func wantNewMemory(t *testing.T, results []heldSlice, arguments []heldSlice) {
	t.Helper()
	before, argumentsBefore := textsOf(results), textsOf(arguments)
	for i := range results {
		results[i].spoil()
		before[i] = results[i].text()
		if now := textsOf(results); !slices.Equal(now, before) {
			t.Fatalf("changing result %d changes the results to %v", i, now)
		}
		if now := textsOf(arguments); !slices.Equal(now, argumentsBefore) {
			t.Fatalf("changing result %d changes the arguments to %v", i, now)
		}
	}
}

func TestResultsOfProgramsAreNewMemory(t *testing.T) {
	rows, l, got, w := crowdedRun()
	arguments := slicesIn(wholeRun(rows, l, got, w))
	arguments = append(arguments, slicesIn(rows[:cap(rows)], l[:cap(l)], got[:cap(got)], w[:cap(w)])...)
	results := append(resultsOfRun(t, rows, l, got, w), resultsOfRun(t, rows, l, got, w)...)
	wantNewMemory(t, results, arguments)
}

func TestResultsOfProgramsOutliveTheirArguments(t *testing.T) {
	rows, l, got, w := crowdedRun()
	results := resultsOfRun(t, rows, l, got, w)
	before := textsOf(results)
	for _, x := range slicesIn(rows, l, got, w) {
		x.spoil()
	}
	if now := textsOf(results); !slices.Equal(now, before) {
		t.Errorf("the results become %v with the arguments", now)
	}
}

func TestReadOpsReturnsNoPartsOfItsArgument(t *testing.T) {
	s := opsText(manyOps(mostOps)) // which has all kinds
	l, ok := impl.ReadOps(s)
	if !ok || len(l) != mostOps {
		t.Fatalf("ReadOps(%q) = %v, %v", s, l, ok)
	}
	for _, o := range l {
		if sharesMemory(o.Key, s) || sharesMemory(o.Val, s) {
			t.Errorf("%v has a part of the argument", o)
		}
	}
}

func TestProgramsDoNotDependOnEarlierCalls(t *testing.T) {
	rows, l, got, w := crowdedRun()
	before := textsOf(resultsOfRun(t, rows, l, got, w))
	for _, odd := range oddPrograms() {
		impl.StepOps(odd, got)
		impl.RunAlone(rows, odd)
		impl.KeysWritten(odd)
		impl.OpsText(odd)
		impl.RunInTurn(rows, [][]impl.Op{odd, l})
	}
	for _, odd := range oddRows() {
		impl.PutRows(rows, odd)
		impl.PutRows(odd, w)
		impl.RunAlone(odd, l)
	}
	for _, s := range oddStrings() {
		impl.ReadOps(s)
		impl.NumberIn(s)
	}
	if now := textsOf(resultsOfRun(t, rows, l, got, w)); !slices.Equal(now, before) {
		t.Errorf("the results are %v, before %v", now, before)
	}
}
