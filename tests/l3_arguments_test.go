package tests

import (
	"fmt"
	"slices"
	"strings"
	"testing"

	"loop.example/g00850/impl"
)

// oddWrites and oddCells have valid and invalid lists, around the limits and far from them.
func oddWrites() [][]impl.Write {
	l := [][]impl.Write{
		nil, {}, {{}}, {{Gone: true}}, {{Val: "1"}}, {store("a", "1")}, {drop("a")}, {{Key: "a", Val: "1", Gone: true}},
		{store("a", "1"), drop("b")}, {store("b", "1"), drop("a")}, {store("a", "1"), store("a", "1")}, {store("k0003", ""), store("z", "")},
		manyWrites(mostCells), manyWrites(mostCells + 1), make([]impl.Write, mostCells), make([]impl.Write, 100000),
	}
	for _, s := range oddStrings() {
		if len(s) < 30 || len(s) > 50000 {
			l = append(l, writes(store(s, "1")), writes(store("a", s)), writes(store("a", ""), drop(s)))
		}
	}
	return l
}

func oddCells() [][]impl.Cell {
	l := [][]impl.Cell{
		nil, {}, {{}}, {cell("a")}, {cell("", ver(1, "1"))}, {cell("a", impl.Ver{})}, {cell("a", ver(1, "1")), cell("b")},
		{cell("b", ver(1, "1")), cell("a", ver(1, "1"))}, {cell("a", ver(1, "1")), cell("a", ver(1, "1"))},
		manyCells(mostCells), manyCells(mostCells + 1), make([]impl.Cell, mostCells), make([]impl.Cell, 100000),
		{cell("a", make([]impl.Ver, mostVers)...)}, {cell("a", make([]impl.Ver, 100000)...)},
		{cell("a", ver(3, "1"), gone(6), ver(8, "")), cell("c", gone(4), ver(5, "2")), cell("e", ver(lastTrue, "9"))},
	}
	for _, vers := range append(goodVers(), badVers()...) {
		l = append(l, cells(cell("a", vers...)), cells(cell("0", gone(5)), cell("a", vers...), cell("b", vers...)))
	}
	for _, time := range oddTimes {
		l = append(l, cells(cell("a", ver(time, "1"))), cells(cell("a", ver(1, "1"), gone(time))))
	}
	for _, s := range []string{"", "\x00", "\xff", "\u00e9", "A", strings.Repeat("a", 13), strings.Repeat("a", 25), strings.Repeat("a", 100000)} {
		l = append(l, cells(cell(s, ver(1, "1"))), cells(cell("a", ver(1, s))))
	}
	return l
}

// short keeps the report of a long list readable.
func short(l any) string {
	s := fmt.Sprint(l)
	return s[:min(len(s), 300)]
}

func TestCellListsAcceptAllArguments(t *testing.T) {
	for _, l := range oddCells() {
		good := areCells(l)
		if impl.GoodCells(l) != good {
			t.Errorf("GoodCells(%s) is %v", short(l), !good)
		}
		for _, time := range oddTimes {
			ok := good && isWithin(time, 0, lastTrue)
			rows, gotOK := impl.CellsAt(l, time)
			if gotOK != ok || !ok && len(rows) != 0 || ok && !areWrites(rows) {
				t.Errorf("CellsAt(%s, %d) = %s, %v", short(l), time, short(rows), gotOK)
			}
			kept, gotOK := impl.TrimCells(l, time)
			if gotOK != ok || !ok && len(kept) != 0 || ok && !equalCells(kept, trimmed(l, time)) {
				t.Errorf("TrimCells(%s, %d) = %s, %v", short(l), time, short(kept), gotOK)
			}
		}
	}
}

func TestLookupsAcceptAllArguments(t *testing.T) {
	keys := append(oddStrings(), "a", "b", "0", "k0003", "zz", "/", strings.Repeat("k", mostKey))
	for _, l := range oddCells() {
		good := areCells(l)
		for _, key := range keys {
			ok := good && keyForm.MatchString(key)
			if time, gotOK := impl.LastTime(l, key); gotOK != ok || !ok && time != 0 || ok && !isWithin(time, 0, lastTrue) {
				t.Errorf("LastTime(%s, %.80q) = %d, %v", short(l), key, time, gotOK)
			}
		}
		for _, key := range []string{"", "A", "a", "k0003", "zz"} {
			for _, time := range oddTimes {
				ok := good && keyForm.MatchString(key) && isWithin(time, 0, lastTrue)
				val, there, gotOK := impl.CellAt(l, key, time)
				if gotOK != ok || !there && val != "" || !ok && there {
					t.Errorf("CellAt(%s, %.80q, %d) = %.80q, %v, %v", short(l), key, time, val, there, gotOK)
				}
			}
		}
	}
}

func TestPutCellsAcceptsAllArguments(t *testing.T) {
	for _, w := range oddWrites() {
		good := areWrites(w)
		if impl.GoodWrites(w) != good {
			t.Errorf("GoodWrites(%s) is %v", short(w), !good)
		}
		for _, l := range oddCells() {
			for _, time := range []int{-1 << 63, -1, 0, 1, 2, 9, lastTrue, lastTrue + 1, 1<<63 - 1} {
				want, ok := putInto(l, w, time)
				if got, gotOK := impl.PutCells(l, w, time); gotOK != ok || !equalCells(got, want) {
					t.Errorf("PutCells(%s, %s, %d) = %s, %v; want %s, %v", short(l), short(w), time, short(got), gotOK, short(want), ok)
				}
			}
		}
	}
}

// putInto appends the cells and sorts them, and judges the result by the form of valid cells.
func putInto(l []impl.Cell, w []impl.Write, time int) ([]impl.Cell, bool) {
	if !areCells(l) || !areWrites(w) || !isWithin(time, 1, lastTrue) {
		return nil, false
	}
	put := cloneCells(l)
	for _, x := range w {
		v := impl.Ver{Time: time, Val: x.Val, Gone: x.Gone}
		if i := slices.IndexFunc(put, func(c impl.Cell) bool { return c.Key == x.Key }); i >= 0 {
			put[i].Vers = append(put[i].Vers, v)
		} else {
			put = append(put, cell(x.Key, v))
		}
	}
	slices.SortFunc(put, func(a impl.Cell, b impl.Cell) int { return strings.Compare(a.Key, b.Key) })
	if !areCells(put) {
		return nil, false
	}
	return put, true
}

func TestSameCellsAcceptsAllArguments(t *testing.T) {
	for _, a := range oddCells() {
		for _, b := range oddCells() {
			if same := impl.SameCells(a, b); same != equalCells(a, b) {
				t.Errorf("SameCells(%s, %s) = %v", short(a), short(b), same)
			}
		}
	}
}

// crowded returns the valid cells a, c and e and three writes, all of them parts of longer slices; everything behind them is valid, too, and would be noticed.
func crowded() ([]impl.Cell, []impl.Write) {
	vers := []impl.Ver{ver(3, "1"), gone(6), ver(7, "behind"), ver(8, "behind")}
	l := []impl.Cell{cell("a", vers[:2]...), cell("c", vers[1:3]...), cell("e", vers[2:3]...), cell("g", vers...), cell("h", vers...)}
	w := []impl.Write{store("a", "x"), drop("b"), store("e", "y"), store("f", "behind"), store("g", "behind")}
	return l[:3], w[:3]
}

// whole returns copies of all that a list holds, behind its length as well.
func whole(l []impl.Cell, w []impl.Write) ([]impl.Cell, []impl.Write) {
	all := slices.Clone(l[:cap(l)])
	for i, c := range all {
		all[i].Vers = slices.Clone(c.Vers[:cap(c.Vers)])
	}
	return all, slices.Clone(w[:cap(w)])
}

func TestCellsNeitherChangeNorReadBehindTheirArguments(t *testing.T) {
	l, w := crowded()
	cellsBefore, writesBefore := whole(l, w)
	rows := writes(store("a", "1"))
	vers := []impl.Ver{ver(3, "1"), gone(6), ver(7, "behind")}
	for range 2 {
		wantGoodCells(t, l, true)
		wantGoodWrites(t, w, true)
		wantPut(t, l, w, 9, cells(cell("a", vers[0], vers[1], ver(9, "x")), cell("b", gone(9)), cell("c", vers[1], vers[2]), cell("e", vers[2], ver(9, "y"))))
		wantNoPut(t, l, w, 7)
		wantPut(t, l, nil, 7, l)
		wantCellsAt(t, l, 5, rows, true)
		wantTrim(t, l, 6, cells(cell("c", vers[2]), cell("e", vers[2])), true)
		wantTrim(t, l, 0, l, true)
		wantCellAt(t, l, "a", lastTrue, "", false, true)
		wantCellAt(t, l, "g", lastTrue, "", false, true)
		wantLastTime(t, l, "a", 6, true)
		wantLastTime(t, l, "g", 0, true)
		if !impl.SameCells(l, cloneCells(l)) {
			t.Error("SameCells reads behind its argument")
		}
		cellsAfter, writesAfter := whole(l, w)
		if !equalCells(cellsAfter, cellsBefore) || !slices.Equal(writesAfter, writesBefore) {
			t.Fatalf("%v and %v, before %v and %v", cellsAfter, writesAfter, cellsBefore, writesBefore)
		}
	}
}

// spoil overwrites all that a list of cells holds, behind its length as well.
func spoil(l []impl.Cell) {
	l = l[:cap(l)]
	for i := range l {
		spoilVers(l[i].Vers)
		l[i] = impl.Cell{Key: "spoilt"}
	}
}

func spoilVers(l []impl.Ver) {
	l = l[:cap(l)]
	for i := range l {
		l[i] = ver(-1, "spoilt")
	}
}

// resultsOfCells calls everything that returns cells, with arguments for which all versions are kept or some of them.
func resultsOfCells(t *testing.T, l []impl.Cell, w []impl.Write) [][]impl.Cell {
	t.Helper()
	var results [][]impl.Cell
	for range 2 {
		for _, x := range [][]impl.Write{w, nil, w[1:2]} {
			put, ok := impl.PutCells(l, x, 9)
			if !ok {
				t.Fatal("PutCells fails")
			}
			results = append(results, put)
		}
		for _, floor := range []int{0, 5, 6, 7, lastTrue} {
			kept, ok := impl.TrimCells(l, floor)
			if !ok {
				t.Fatal("TrimCells fails")
			}
			results = append(results, kept)
		}
	}
	return results
}

func TestCellsOfResultsAreNewMemory(t *testing.T) {
	l, w := crowded()
	results := resultsOfCells(t, l, w)
	for i := range results {
		argument, _ := whole(l, w)
		others := make([][]impl.Cell, len(results))
		for j := range results {
			others[j] = cloneCells(results[j])
		}
		spoil(results[i])
		for j := range results {
			if j != i && !equalCells(results[j], others[j]) {
				t.Errorf("changing result %d changes result %d to %v", i, j, results[j])
			}
		}
		if now, _ := whole(l, w); !equalCells(now, argument) {
			t.Fatalf("changing result %d changes the argument to %v", i, now)
		}
		results[i] = others[i]
	}
}

func TestCellsOfResultsOutliveTheirArguments(t *testing.T) {
	l, w := crowded()
	results := resultsOfCells(t, l, w)
	rows, _ := impl.CellsAt(l, 5)
	spoil(l)
	clear(w[:cap(w)])
	l, w = crowded()
	for i, want := range resultsOfCells(t, l, w) {
		if !equalCells(results[i], want) {
			t.Errorf("result %d becomes %v with its argument", i, results[i])
		}
	}
	if !slices.Equal(rows, writes(store("a", "1"))) {
		t.Errorf("the rows become %v with their argument", rows)
	}
}

func TestVersionsOfOneResultShareNoMemory(t *testing.T) {
	l, w := crowded()
	for i, result := range resultsOfCells(t, l, w) {
		for j := range result {
			before := cloneCells(result)
			spoilVers(result[j].Vers)
			for k := range result {
				if k != j && !slices.Equal(result[k].Vers, before[k].Vers) {
					t.Errorf("result %d: changing the versions %d changes the versions %d", i, j, k)
				}
			}
			result[j].Vers = before[j].Vers
		}
	}
}

func TestRowsOfResultsAreNewMemory(t *testing.T) {
	l, _ := crowded()
	one, _ := impl.CellsAt(l, 5)
	two, _ := impl.CellsAt(l, 5)
	clear(one[:cap(one)])
	wantCellsAt(t, l, 5, writes(store("a", "1")), true)
	if !slices.Equal(two, writes(store("a", "1"))) {
		t.Errorf("changing one list of rows changes another one to %v", two)
	}
}

func TestCellsDoNotDependOnEarlierCalls(t *testing.T) {
	l, w := crowded()
	first := resultsOfCells(t, l, w)
	for _, odd := range oddCells() {
		impl.PutCells(odd, w, 9)
		impl.TrimCells(odd, 6)
		impl.CellsAt(odd, 6)
	}
	for i, again := range resultsOfCells(t, l, w) {
		if !equalCells(again, first[i]) {
			t.Errorf("result %d is %v, then %v", i, first[i], again)
		}
	}
}
