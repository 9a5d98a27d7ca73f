package tests

import (
	"fmt"
	"math/rand/v2"
	"regexp"
	"slices"
	"strings"
	"testing"

	"loop.example/g00850/impl"
)

// The limits are written out, so that a changed constant of the program is noticed.
const (
	mostKey   = 12
	mostVal   = 24
	mostCells = 24
	mostVers  = 16
)

var keyForm = regexp.MustCompile(`\A[a-z0-9./]{1,12}\z`)
var valForm = regexp.MustCompile(`\A[a-z0-9.,_-]{0,24}\z`)

func store(key string, val string) impl.Write {
	return impl.Write{Key: key, Val: val}
}

func drop(key string) impl.Write {
	return impl.Write{Key: key, Gone: true}
}

func ver(time int, val string) impl.Ver {
	return impl.Ver{Time: time, Val: val}
}

func gone(time int) impl.Ver {
	return impl.Ver{Time: time, Gone: true}
}

func cell(key string, vers ...impl.Ver) impl.Cell {
	return impl.Cell{Key: key, Vers: vers}
}

func cells(l ...impl.Cell) []impl.Cell {
	return l
}

func writes(l ...impl.Write) []impl.Write {
	return l
}

// manyKeys returns n keys in increasing order.
func manyKeys(n int) []string {
	l := make([]string, n)
	for i := range l {
		l[i] = fmt.Sprintf("k%04d", i)
	}
	return l
}

func manyWrites(n int) []impl.Write {
	l := make([]impl.Write, n)
	for i, key := range manyKeys(n) {
		l[i] = store(key, "v")
	}
	return l
}

func manyCells(n int) []impl.Cell {
	l := make([]impl.Cell, n)
	for i, key := range manyKeys(n) {
		l[i] = cell(key, ver(1, "v"))
	}
	return l
}

// manyVers returns n versions of the times 1 to n.
func manyVers(n int) []impl.Ver {
	l := make([]impl.Ver, n)
	for i := range l {
		l[i] = ver(i+1, "v")
	}
	return l
}

func equalCells(a []impl.Cell, b []impl.Cell) bool {
	return slices.EqualFunc(a, b, func(x impl.Cell, y impl.Cell) bool {
		return x.Key == y.Key && slices.Equal(x.Vers, y.Vers)
	})
}

func cloneCells(l []impl.Cell) []impl.Cell {
	c := slices.Clone(l)
	for i := range c {
		c[i].Vers = slices.Clone(c[i].Vers)
	}
	return c
}

func isContent(val string, gone bool) bool {
	return valForm.MatchString(val) && (!gone || val == "")
}

func areWrites(l []impl.Write) bool {
	for i, w := range l {
		if !keyForm.MatchString(w.Key) || !isContent(w.Val, w.Gone) || i > 0 && w.Key <= l[i-1].Key {
			return false
		}
	}
	return len(l) <= mostCells
}

func areCells(l []impl.Cell) bool {
	for i, c := range l {
		if !keyForm.MatchString(c.Key) || i > 0 && c.Key <= l[i-1].Key || len(c.Vers) == 0 || len(c.Vers) > mostVers {
			return false
		}
		for j, v := range c.Vers {
			if !isWithin(v.Time, 1, lastTrue) || !isContent(v.Val, v.Gone) || j > 0 && v.Time <= c.Vers[j-1].Time {
				return false
			}
		}
	}
	return len(l) <= mostCells
}

func wantGoodWrites(t *testing.T, l []impl.Write, good bool) {
	t.Helper()
	if got := impl.GoodWrites(l); got != good {
		t.Errorf("GoodWrites(%v) = %v", l, got)
	}
}

func wantGoodCells(t *testing.T, l []impl.Cell, good bool) {
	t.Helper()
	if got := impl.GoodCells(l); got != good {
		t.Errorf("GoodCells(%v) = %v", l, got)
	}
}

func wantPut(t *testing.T, l []impl.Cell, w []impl.Write, time int, want []impl.Cell) {
	t.Helper()
	if got, ok := impl.PutCells(l, w, time); !equalCells(got, want) || !ok {
		t.Errorf("PutCells(%v, %v, %d) = %v, %v; want %v", l, w, time, got, ok, want)
	}
}

func wantNoPut(t *testing.T, l []impl.Cell, w []impl.Write, time int) {
	t.Helper()
	if got, ok := impl.PutCells(l, w, time); len(got) != 0 || ok {
		t.Errorf("PutCells(%v, %v, %d) = %v, %v", l, w, time, got, ok)
	}
}

func wantCellAt(t *testing.T, l []impl.Cell, key string, time int, val string, there bool, ok bool) {
	t.Helper()
	if gotVal, gotThere, gotOK := impl.CellAt(l, key, time); gotVal != val || gotThere != there || gotOK != ok {
		t.Errorf("CellAt(%v, %q, %d) = %q, %v, %v; want %q, %v, %v", l, key, time, gotVal, gotThere, gotOK, val, there, ok)
	}
}

func wantCellsAt(t *testing.T, l []impl.Cell, time int, rows []impl.Write, ok bool) {
	t.Helper()
	if gotRows, gotOK := impl.CellsAt(l, time); !slices.Equal(gotRows, rows) || gotOK != ok {
		t.Errorf("CellsAt(%v, %d) = %v, %v; want %v, %v", l, time, gotRows, gotOK, rows, ok)
	}
}

func wantTrim(t *testing.T, l []impl.Cell, floor int, want []impl.Cell, ok bool) {
	t.Helper()
	if got, gotOK := impl.TrimCells(l, floor); !equalCells(got, want) || gotOK != ok {
		t.Errorf("TrimCells(%v, %d) = %v, %v; want %v, %v", l, floor, got, gotOK, want, ok)
	}
}

func wantLastTime(t *testing.T, l []impl.Cell, key string, time int, ok bool) {
	t.Helper()
	if gotTime, gotOK := impl.LastTime(l, key); gotTime != time || gotOK != ok {
		t.Errorf("LastTime(%v, %q) = %d, %v; want %d, %v", l, key, gotTime, gotOK, time, ok)
	}
}

// badKeys and badVals exceed each limit by one, and have the bytes just outside the sets.
func badKeys() []string {
	return []string{"", strings.Repeat("a", mostKey+1), "`", "{", "-", ":", "A", "Z", "_", ",", " ", "a b", "a-", "-a", "a\x00", "\xff", "\u00e9", "a\n"}
}

func badVals() []string {
	return []string{strings.Repeat("a", mostVal+1), "`", "{", "+", "/", ":", "^", "A", "Z", "=", ";", " ", "a b", "a/", "/a", "a\x00", "\xff", "\u00e9", "a\n"}
}

func TestKeysAndValuesHaveTheBytesOfTheirSets(t *testing.T) {
	for b := range 256 {
		c := string([]byte{byte(b)})
		for _, s := range []string{c, c + "a", "a" + c, "ab" + c + "cd", c + c} {
			inKey := strings.Contains("abcdefghijklmnopqrstuvwxyz0123456789./", c)
			if impl.GoodKey(s) != inKey {
				t.Errorf("GoodKey(%q) is %v", s, !inKey)
			}
			inVal := strings.Contains("abcdefghijklmnopqrstuvwxyz0123456789.-,_", c)
			if impl.GoodVal(s) != inVal {
				t.Errorf("GoodVal(%q) is %v", s, !inVal)
			}
		}
	}
}

func TestKeysAndValuesHaveTheirLengths(t *testing.T) {
	for n := range 40 {
		s := strings.Repeat("a", n)
		if good := isWithin(n, 1, mostKey); impl.GoodKey(s) != good {
			t.Errorf("GoodKey of %d bytes is %v", n, !good)
		}
		if good := n <= mostVal; impl.GoodVal(s) != good {
			t.Errorf("GoodVal of %d bytes is %v", n, !good)
		}
	}
	for _, key := range badKeys() {
		if impl.GoodKey(key) {
			t.Errorf("GoodKey(%q) is true", key)
		}
	}
	for _, val := range badVals() {
		if impl.GoodVal(val) {
			t.Errorf("GoodVal(%q) is true", val)
		}
	}
}

func TestGoodWrites(t *testing.T) {
	longest := strings.Repeat("z", mostKey)
	for _, l := range [][]impl.Write{
		nil, {}, writes(store("a", "")), writes(store("a", strings.Repeat("_", mostVal))), writes(drop("a")), writes(store(longest, "1")),
		writes(store("a", "1"), store("b", "1")), writes(drop("a"), drop("b")), writes(store("a", ""), drop("b")),
		writes(store("a", "1"), store("aa", "2"), store("ab", "3"), store("b", "4")),
		writes(store(".", "1"), store("/", "2"), store("0", "3"), store("9", "4"), store("a", "5"), store("z", "6")),
		manyWrites(mostCells - 1), manyWrites(mostCells),
	} {
		wantGoodWrites(t, l, true)
	}
	for _, l := range [][]impl.Write{
		writes(store("a", "1"), store("a", "1")), writes(store("a", "1"), store("a", "2")), writes(store("a", "1"), drop("a")),
		writes(store("b", "1"), store("a", "1")), writes(drop("b"), drop("a")), writes(store("aa", "1"), store("a", "1")),
		writes(store("a", "1"), store("c", "1"), store("b", "1")), writes(store("a", "1"), store("b", "1"), store("b", "1")),
		writes(store("a", ""), store("/", "")), writes(store("a", ""), store("9", "")), writes(store("/", ""), store(".", "")),
		writes(impl.Write{Key: "a", Val: "1", Gone: true}), writes(store("", "1")), writes(drop("")),
		manyWrites(mostCells + 1), manyWrites(1000),
	} {
		wantGoodWrites(t, l, false)
	}
}

func TestGoodWritesLooksAtEveryWrite(t *testing.T) {
	for i := range mostCells {
		for _, key := range badKeys() {
			l := manyWrites(mostCells)
			l[i].Key = key
			wantGoodWrites(t, l, false)
		}
		for _, val := range badVals() {
			l := manyWrites(mostCells)
			l[i].Val = val
			wantGoodWrites(t, l, false)
			l[i].Gone = true
			wantGoodWrites(t, l, false)
		}
		l := manyWrites(mostCells)
		l[i].Gone = true
		wantGoodWrites(t, l, false)
		l[i].Val = ""
		wantGoodWrites(t, l, true)
		if i > 0 {
			l[i].Key = l[i-1].Key
			wantGoodWrites(t, l, false)
		}
	}
}

// goodVers meets the limits exactly; badVers exceeds each of them by one, and more.
func goodVers() [][]impl.Ver {
	return [][]impl.Ver{
		{ver(1, "")}, {ver(lastTrue, "1")}, {gone(1)}, {gone(lastTrue)}, {ver(1, strings.Repeat("-", mostVal))},
		{ver(1, "1"), ver(2, "1")}, {ver(1, "1"), gone(2)}, {gone(1), ver(2, "1")}, {gone(1), gone(2)},
		{ver(1, "1"), ver(lastTrue, "2")}, {ver(lastTrue-1, "1"), ver(lastTrue, "2")}, manyVers(mostVers - 1), manyVers(mostVers),
	}
}

func badVers() [][]impl.Ver {
	return [][]impl.Ver{
		nil, {}, {ver(0, "1")}, {ver(-1, "1")}, {ver(lastTrue+1, "1")}, {gone(0)}, {gone(lastTrue + 1)},
		{ver(0, "1"), ver(1, "1")}, {ver(1, "1"), ver(lastTrue+1, "1")}, {ver(1, "1"), ver(1, "1")}, {ver(1, "1"), gone(1)},
		{ver(2, "1"), ver(1, "1")}, {ver(1, "1"), ver(3, "1"), ver(2, "1")}, {ver(1, "1"), ver(2, "1"), ver(2, "1")},
		{ver(lastTrue, "1"), ver(1, "1")}, {{Time: 1, Val: "1", Gone: true}}, {ver(1, "1"), {Time: 2, Val: "1", Gone: true}},
		{ver(1, strings.Repeat("a", mostVal+1))}, {ver(1, "/")}, {ver(1, "A")}, {ver(1, "1"), ver(2, " ")},
		{{Time: 1, Val: "A", Gone: true}}, manyVers(mostVers + 1), manyVers(1000),
	}
}

func TestGoodCells(t *testing.T) {
	for _, l := range [][]impl.Cell{nil, {}, manyCells(1), manyCells(mostCells - 1), manyCells(mostCells)} {
		wantGoodCells(t, l, true)
	}
	for _, n := range []int{mostCells + 1, 1000} {
		wantGoodCells(t, manyCells(n), false)
	}
	for _, vers := range goodVers() {
		wantGoodCells(t, cells(cell("a", vers...)), true)
		wantGoodCells(t, cells(cell("a", vers...), cell("b", vers...)), true)
	}
	one := ver(1, "1")
	for _, vers := range badVers() {
		wantGoodCells(t, cells(cell("a", vers...)), false)
		wantGoodCells(t, cells(cell("a", vers...), cell("b", one)), false)
		wantGoodCells(t, cells(cell("a", one), cell("b", vers...)), false)
	}
	for _, key := range badKeys() {
		wantGoodCells(t, cells(cell(key, one)), false)
	}
	wantGoodCells(t, cells(cell("a", one), cell("aa", one), cell("b", one)), true)
	wantGoodCells(t, cells(cell(".", one), cell("/", one), cell("0", one), cell("a", one)), true)
	wantGoodCells(t, cells(cell("a", one), cell("a", one)), false)
	wantGoodCells(t, cells(cell("a", one), cell("a", ver(2, "2"))), false)
	wantGoodCells(t, cells(cell("b", one), cell("a", one)), false)
	wantGoodCells(t, cells(cell("aa", one), cell("a", one)), false)
	wantGoodCells(t, cells(cell("a", one), cell("c", one), cell("b", one)), false)
}

func TestGoodCellsLooksAtEveryVersion(t *testing.T) {
	fullest := manyCells(mostCells)
	for i := range fullest {
		fullest[i].Vers = manyVers(mostVers)
	}
	wantGoodCells(t, fullest, true)
	for i := range fullest {
		for j := range mostVers {
			for _, bad := range []impl.Ver{ver(j, "v"), ver(lastTrue+1, "v"), ver(j+1, "V"), {Time: j + 1, Val: "v", Gone: true}} {
				l := cloneCells(fullest)
				l[i].Vers[j] = bad
				wantGoodCells(t, l, false)
			}
			l := cloneCells(fullest)
			l[i].Vers[j] = gone(j + 1)
			wantGoodCells(t, l, true)
		}
	}
}

func TestSameCells(t *testing.T) {
	one, two := ver(1, "1"), ver(2, "2")
	different := [][]impl.Cell{
		{}, {cell("a", one)}, {cell("b", one)}, {cell("a", two)}, {cell("a", ver(1, "2"))}, {cell("a", ver(2, "1"))}, {cell("a", gone(1))},
		{cell("a", ver(1, ""))}, {cell("a", impl.Ver{Time: 1, Val: "1", Gone: true})}, {cell("a", one, two)}, {cell("a", one, ver(2, "1"))},
		{cell("a", one, gone(2))}, {cell("a", one), cell("b", one)}, {cell("a", one), cell("b", two)}, {cell("a", one), cell("b", one, two)},
		// Values that are not valid are compared, too.
		{cell("")}, {cell("a")}, {cell("A")}, {cell("a"), cell("a")}, {cell("b", one), cell("a", one)}, {cell("a", two, one)}, {cell("a", ver(-1, "\xff"))},
		{cell("a", ver(0, ""))}, {cell("a", ver(0, ""), ver(0, ""))}, manyCells(mostCells), manyCells(mostCells + 1), {cell("a", manyVers(mostVers+1)...)},
	}
	for i, a := range different {
		for j, b := range different {
			if same := impl.SameCells(cloneCells(a), cloneCells(b)); same != (i == j) {
				t.Errorf("SameCells(%v, %v) = %v", a, b, same)
			}
		}
	}
}

func TestSameCellsTakesNilForEmpty(t *testing.T) {
	empty := []impl.Cell{{Key: "a", Vers: []impl.Ver{}}}
	none := []impl.Cell{{Key: "a"}}
	if !impl.SameCells(nil, []impl.Cell{}) || !impl.SameCells([]impl.Cell{}, nil) || !impl.SameCells(nil, nil) {
		t.Error("a nil list differs from an empty list of cells")
	}
	if !impl.SameCells(empty, none) || !impl.SameCells(none, empty) {
		t.Error("a nil list differs from an empty list of versions")
	}
	if impl.SameCells(nil, none) || impl.SameCells(none, nil) || impl.SameCells(nil, []impl.Cell{{}}) {
		t.Error("no cell equals a cell without versions")
	}
}

func TestCellsOfTheExample(t *testing.T) {
	l, ok := impl.PutCells(nil, writes(store("a", "1"), store("b", "2")), 5)
	if !ok {
		t.Fatal("PutCells fails")
	}
	l, ok = impl.PutCells(l, writes(drop("a")), 9)
	if !ok || !equalCells(l, cells(cell("a", ver(5, "1"), gone(9)), cell("b", ver(5, "2")))) {
		t.Fatalf("PutCells = %v, %v", l, ok)
	}
	wantCellAt(t, l, "a", 8, "1", true, true)
	wantCellAt(t, l, "a", 9, "", false, true)
	wantCellsAt(t, l, 9, writes(store("b", "2")), true)
	wantTrim(t, l, 9, cells(cell("b", ver(5, "2"))), true)
	wantTrim(t, l, 8, l, true)
	wantLastTime(t, l, "a", 9, true)
}

func TestPutCellsKeepsTheOrderOfKeys(t *testing.T) {
	l := cells(cell("b", ver(3, "1")), cell("d", ver(4, "2")))
	one := ver(5, "x")
	wantPut(t, l, writes(store("a", "x")), 5, cells(cell("a", one), cell("b", ver(3, "1")), cell("d", ver(4, "2"))))
	wantPut(t, l, writes(store("c", "x")), 5, cells(cell("b", ver(3, "1")), cell("c", one), cell("d", ver(4, "2"))))
	wantPut(t, l, writes(store("e", "x")), 5, cells(cell("b", ver(3, "1")), cell("d", ver(4, "2")), cell("e", one)))
	wantPut(t, l, writes(store("b", "x")), 5, cells(cell("b", ver(3, "1"), one), cell("d", ver(4, "2"))))
	wantPut(t, l, writes(store("a", "x"), drop("b"), store("c", "x"), store("d", "x"), drop("e")), 5, cells(
		cell("a", one), cell("b", ver(3, "1"), gone(5)), cell("c", one), cell("d", ver(4, "2"), one), cell("e", gone(5))))
}

func TestPutCellsWritesDeletionsAndEmptyValues(t *testing.T) {
	wantPut(t, nil, writes(drop("a")), 7, cells(cell("a", gone(7)))) // a deletion of a key that has no cell
	wantPut(t, cells(cell("b", ver(3, "1"))), writes(drop("a")), 2, cells(cell("a", gone(2)), cell("b", ver(3, "1"))))
	wantPut(t, cells(cell("a", gone(7))), writes(drop("a")), 8, cells(cell("a", gone(7), gone(8))))
	wantPut(t, cells(cell("a", gone(7))), writes(store("a", "")), 8, cells(cell("a", gone(7), ver(8, ""))))
	wantPut(t, cells(cell("a", ver(7, "1"))), writes(store("a", "1")), 8, cells(cell("a", ver(7, "1"), ver(8, "1"))))
}

func TestPutCellsOfNothing(t *testing.T) {
	for _, time := range []int{1, lastTrue} {
		wantPut(t, nil, nil, time, nil)
		wantPut(t, cells(cell("a", ver(9, "1"))), nil, time, cells(cell("a", ver(9, "1"))))
		wantPut(t, cells(cell("a", ver(9, "1"))), []impl.Write{}, time, cells(cell("a", ver(9, "1"))))
	}
	for _, time := range []int{-1, 0, lastTrue + 1} {
		wantNoPut(t, nil, nil, time)
		wantNoPut(t, cells(cell("a", ver(9, "1"))), nil, time)
	}
}

func TestPutCellsChecksTheTime(t *testing.T) {
	l := cells(cell("a", ver(3, "1"), ver(5, "2")), cell("b", gone(7)))
	for _, w := range [][]impl.Write{writes(store("a", "x")), writes(drop("a")), writes(store("a", "2"), store("c", "x"))} {
		for _, time := range []int{1, 2, 3, 4, 5} {
			wantNoPut(t, l, w, time)
		}
	}
	wantPut(t, l, writes(store("a", "x")), 6, cells(cell("a", ver(3, "1"), ver(5, "2"), ver(6, "x")), cell("b", gone(7))))
	// The time must be greater than that of every written key, and of no other one.
	wantNoPut(t, l, writes(store("a", "x"), store("b", "x")), 6)
	wantNoPut(t, l, writes(store("a", "x"), store("b", "x")), 7)
	wantPut(t, l, writes(store("a", "x"), store("b", "y")), 8, cells(cell("a", ver(3, "1"), ver(5, "2"), ver(8, "x")), cell("b", gone(7), ver(8, "y"))))
	wantPut(t, l, writes(store("c", "x")), 1, append(cloneCells(l), cell("c", ver(1, "x"))))
	wantPut(t, l, writes(store("c", "x")), lastTrue, append(cloneCells(l), cell("c", ver(lastTrue, "x"))))
	for _, time := range []int{-1, 0, lastTrue + 1} {
		wantNoPut(t, l, writes(store("c", "x")), time)
	}
	wantNoPut(t, cells(cell("a", ver(lastTrue, "1"))), writes(store("a", "x")), lastTrue)
	wantNoPut(t, cells(cell("a", ver(lastTrue, "1"))), writes(store("a", "x")), lastTrue+1)
	wantPut(t, cells(cell("a", ver(lastTrue-1, "1"))), writes(drop("a")), lastTrue, cells(cell("a", ver(lastTrue-1, "1"), gone(lastTrue))))
}

func TestPutCellsChecksTheNumberOfCells(t *testing.T) {
	keys := manyKeys(mostCells)
	wantPut(t, manyCells(mostCells-1), writes(store(keys[mostCells-1], "v")), 1, manyCells(mostCells))
	wantPut(t, nil, manyWrites(mostCells), 1, manyCells(mostCells))
	wantNoPut(t, nil, manyWrites(mostCells+1), 1)
	for _, key := range []string{"a", "k0003x", "z"} {
		wantNoPut(t, manyCells(mostCells), writes(store(key, "v")), 2)
		wantNoPut(t, manyCells(mostCells), writes(drop(key)), 2)
		wantNoPut(t, manyCells(mostCells-1), writes(store("k0003w", "v"), store("k0003x", "v")), 2)
		wantNoPut(t, manyCells(mostCells), append(manyWrites(mostCells-1), store("z", "v")), 2)
	}
	want := manyCells(mostCells)
	for i := range want {
		want[i].Vers = manyVers(2)
	}
	wantPut(t, manyCells(mostCells), manyWrites(mostCells), 2, want)
}

func TestPutCellsChecksTheNumberOfVersions(t *testing.T) {
	for n := 1; n < mostVers; n++ {
		wantPut(t, cells(cell("a", manyVers(n)...)), writes(store("a", "v")), n+1, cells(cell("a", manyVers(n+1)...)))
	}
	full := cells(cell("a", manyVers(mostVers)...), cell("b", ver(1, "v")))
	wantNoPut(t, full, writes(store("a", "v")), mostVers+1)
	wantNoPut(t, full, writes(drop("a")), mostVers+1)
	wantNoPut(t, full, writes(drop("a"), store("b", "x")), mostVers+1)
	wantPut(t, full, writes(store("b", "x")), mostVers+1, cells(full[0], cell("b", ver(1, "v"), ver(mostVers+1, "x"))))
}

func TestPutCellsRefusesInvalidArguments(t *testing.T) {
	good := cells(cell("a", ver(1, "1")))
	wantNoPut(t, good, writes(store("b", "1"), store("b", "1")), 5)
	wantNoPut(t, good, writes(store("c", "1"), store("b", "1")), 5)
	wantNoPut(t, good, writes(impl.Write{Key: "b", Val: "1", Gone: true}), 5)
	for _, key := range badKeys() {
		wantNoPut(t, good, writes(store(key, "1")), 5)
		wantNoPut(t, cells(cell(key, ver(1, "1"))), writes(store("b", "1")), 5)
	}
	for _, val := range badVals() {
		wantNoPut(t, good, writes(store("b", val)), 5)
	}
	for _, vers := range badVers() {
		wantNoPut(t, cells(cell("a", vers...)), writes(store("a", "1")), lastTrue)
		wantNoPut(t, cells(cell("a", vers...)), nil, lastTrue)
	}
	wantNoPut(t, cells(cell("b", ver(1, "1")), cell("a", ver(1, "1"))), writes(store("c", "1")), 5)
	wantNoPut(t, cells(cell("a", ver(1, "1")), cell("a", ver(1, "1"))), writes(store("c", "1")), 5)
}

func TestCellAt(t *testing.T) {
	l := cells(cell("a", ver(3, "1"), gone(6), ver(8, "")), cell("c", gone(4), ver(5, "2")), cell("e", ver(lastTrue, "9")))
	for _, time := range []int{0, 1, 2} {
		wantCellAt(t, l, "a", time, "", false, true)
	}
	for _, time := range []int{3, 4, 5} {
		wantCellAt(t, l, "a", time, "1", true, true)
	}
	for _, time := range []int{6, 7} {
		wantCellAt(t, l, "a", time, "", false, true)
	}
	for _, time := range []int{8, 9, lastTrue} {
		wantCellAt(t, l, "a", time, "", true, true) // the empty value is a value
	}
	wantCellAt(t, l, "c", 3, "", false, true)
	wantCellAt(t, l, "c", 4, "", false, true)
	wantCellAt(t, l, "c", 5, "2", true, true)
	wantCellAt(t, l, "e", lastTrue-1, "", false, true)
	wantCellAt(t, l, "e", lastTrue, "9", true, true)
	for _, key := range []string{"0", "aa", "b", "d", "f", "z"} { // keys without a cell
		wantCellAt(t, l, key, 0, "", false, true)
		wantCellAt(t, l, key, lastTrue, "", false, true)
		wantCellAt(t, nil, key, 5, "", false, true)
	}
}

func TestCellsAt(t *testing.T) {
	l := cells(cell("a", ver(3, "1"), gone(6), ver(8, "")), cell("c", gone(4), ver(5, "2")), cell("e", ver(lastTrue, "9")))
	for time, rows := range map[int][]impl.Write{
		0: nil, 2: nil, 3: writes(store("a", "1")), 4: writes(store("a", "1")), 5: writes(store("a", "1"), store("c", "2")),
		6: writes(store("c", "2")), 7: writes(store("c", "2")), 8: writes(store("a", ""), store("c", "2")),
		lastTrue - 1: writes(store("a", ""), store("c", "2")), lastTrue: writes(store("a", ""), store("c", "2"), store("e", "9")),
	} {
		wantCellsAt(t, l, time, rows, true)
	}
	wantCellsAt(t, nil, 0, nil, true)
	wantCellsAt(t, nil, lastTrue, nil, true)
	wantCellsAt(t, cells(cell("a", gone(3))), 5, nil, true)
	wantCellsAt(t, manyCells(mostCells), 1, manyWrites(mostCells), true)
	wantCellsAt(t, manyCells(mostCells), 0, nil, true)
}

func TestTrimCells(t *testing.T) {
	for _, c := range []struct {
		vers  []impl.Ver
		floor int
		want  []impl.Ver
	}{
		// The last version at or before the floor is a value.
		{[]impl.Ver{ver(5, "1")}, 0, []impl.Ver{ver(5, "1")}},
		{[]impl.Ver{ver(5, "1")}, 4, []impl.Ver{ver(5, "1")}},
		{[]impl.Ver{ver(5, "1")}, 5, []impl.Ver{ver(5, "1")}},
		{[]impl.Ver{ver(5, "1")}, 6, []impl.Ver{ver(5, "1")}},
		{[]impl.Ver{ver(5, "1")}, lastTrue, []impl.Ver{ver(5, "1")}},
		{[]impl.Ver{ver(5, ""), ver(8, "")}, 8, []impl.Ver{ver(8, "")}}, // the empty value is a value
		{[]impl.Ver{ver(5, "1"), ver(8, "2")}, 7, []impl.Ver{ver(5, "1"), ver(8, "2")}},
		{[]impl.Ver{ver(5, "1"), ver(8, "2")}, 8, []impl.Ver{ver(8, "2")}},
		{[]impl.Ver{ver(5, "1"), ver(8, "2")}, 9, []impl.Ver{ver(8, "2")}},
		{[]impl.Ver{ver(5, "1"), gone(6), ver(8, "2"), ver(9, "3")}, 8, []impl.Ver{ver(8, "2"), ver(9, "3")}},
		{[]impl.Ver{ver(5, "1"), gone(8), ver(9, "3"), gone(10)}, 9, []impl.Ver{ver(9, "3"), gone(10)}},
		// It is a deletion.
		{[]impl.Ver{gone(5)}, 0, []impl.Ver{gone(5)}},
		{[]impl.Ver{gone(5)}, 4, []impl.Ver{gone(5)}},
		{[]impl.Ver{gone(5)}, 5, nil},
		{[]impl.Ver{gone(5)}, 6, nil},
		{[]impl.Ver{ver(5, "1"), gone(8)}, 7, []impl.Ver{ver(5, "1"), gone(8)}},
		{[]impl.Ver{ver(5, "1"), gone(8)}, 8, nil},
		{[]impl.Ver{ver(5, "1"), gone(8)}, 9, nil},
		{[]impl.Ver{gone(5), gone(8)}, 7, []impl.Ver{gone(8)}},
		{[]impl.Ver{gone(5), gone(8)}, 8, nil},
		{[]impl.Ver{ver(5, "1"), gone(8), ver(11, "2")}, 7, []impl.Ver{ver(5, "1"), gone(8), ver(11, "2")}},
		{[]impl.Ver{ver(5, "1"), gone(8), ver(11, "2")}, 8, []impl.Ver{ver(11, "2")}},
		{[]impl.Ver{ver(5, "1"), gone(8), ver(11, "2")}, 10, []impl.Ver{ver(11, "2")}},
		{[]impl.Ver{ver(5, "1"), gone(8), gone(9), ver(11, "2")}, 8, []impl.Ver{gone(9), ver(11, "2")}},
		{manyVers(mostVers), mostVers - 1, manyVers(mostVers)[mostVers-2:]},
		{[]impl.Ver{ver(1, "1"), gone(lastTrue)}, lastTrue - 1, []impl.Ver{ver(1, "1"), gone(lastTrue)}},
		{[]impl.Ver{ver(1, "1"), gone(lastTrue)}, lastTrue, nil},
	} {
		var want []impl.Cell
		if c.want != nil {
			want = cells(cell("a", c.want...))
		}
		wantTrim(t, cells(cell("a", c.vers...)), c.floor, want, true)
	}
}

func TestTrimCellsTrimsEveryCell(t *testing.T) {
	l := cells(cell("a", gone(3)), cell("b", ver(2, "1"), ver(4, "2")), cell("c", ver(3, "3"), gone(4)), cell("d", ver(9, "4")))
	wantTrim(t, l, 2, l, true)
	wantTrim(t, l, 3, l[1:], true)
	wantTrim(t, l, 4, cells(cell("b", ver(4, "2")), cell("d", ver(9, "4"))), true)
	wantTrim(t, nil, 0, nil, true)
	wantTrim(t, []impl.Cell{}, lastTrue, nil, true)
	wantTrim(t, manyCells(mostCells), lastTrue, manyCells(mostCells), true)
	wantTrim(t, cells(cell("a", gone(3)), cell("b", gone(3))), 3, nil, true)
}

func TestLastTime(t *testing.T) {
	l := cells(cell("a", ver(3, "1"), gone(6)), cell("c", gone(1)), cell("e", ver(5, "1"), ver(lastTrue, "2")))
	wantLastTime(t, l, "a", 6, true)
	wantLastTime(t, l, "c", 1, true)
	wantLastTime(t, l, "e", lastTrue, true)
	for _, key := range []string{"0", "aa", "b", "d", "f"} {
		wantLastTime(t, l, key, 0, true)
		wantLastTime(t, nil, key, 0, true)
	}
	wantLastTime(t, cells(cell("a", manyVers(mostVers)...)), "a", mostVers, true)
}

func TestLookupsCheckTheirArguments(t *testing.T) {
	good := cells(cell("a", ver(1, "1")))
	for _, time := range []int{-1, lastTrue + 1} {
		wantCellAt(t, good, "a", time, "", false, false)
		wantCellsAt(t, good, time, nil, false)
		wantTrim(t, good, time, nil, false)
	}
	for _, key := range badKeys() {
		wantCellAt(t, good, key, 1, "", false, false)
		wantCellAt(t, nil, key, 1, "", false, false)
		wantLastTime(t, good, key, 0, false)
		wantLastTime(t, nil, key, 0, false)
	}
	bad := [][]impl.Cell{
		manyCells(mostCells + 1), {cell("b", ver(1, "1")), cell("a", ver(1, "1"))}, {cell("a", ver(1, "1")), cell("a", ver(2, "1"))},
	}
	for _, vers := range badVers() {
		bad = append(bad, cells(cell("a", ver(1, "1")), cell("b", vers...)))
	}
	for _, l := range bad {
		wantCellAt(t, l, "a", 1, "", false, false)
		wantCellsAt(t, l, 1, nil, false)
		wantTrim(t, l, 1, nil, false)
		wantLastTime(t, l, "a", 0, false)
	}
}

// written is what the model remembers of a write.
type written struct {
	impl.Write
	time int
}

// modelAt reads the last of all writes of a key at or before time.
func modelAt(log []written, key string, time int) (string, bool) {
	val, there := "", false
	for _, w := range log {
		if w.Key == key && w.time <= time {
			val, there = w.Val, !w.Gone
		}
	}
	return val, there
}

var modelKeys = []string{".", "/x", "0", "a", "ab", "b/1", "z"}

const modelTimes = 40

func randomWrites(r *rand.Rand) []impl.Write {
	var l []impl.Write
	for _, key := range modelKeys {
		switch r.IntN(6) {
		case 0:
			l = append(l, drop(key))
		case 1:
			l = append(l, store(key, ""))
		case 2:
			l = append(l, store(key, fmt.Sprint(r.IntN(1000))))
		}
	}
	return l
}

// randomHistory writes at increasing times as long as the cells have room for it.
func randomHistory(t *testing.T, r *rand.Rand) ([]impl.Cell, []written) {
	t.Helper()
	var l []impl.Cell
	var log []written
	for time := 1 + r.IntN(3); time <= modelTimes; time += 1 + r.IntN(3) {
		w := randomWrites(r)
		next, ok := impl.PutCells(l, w, time)
		if !ok {
			return l, log
		}
		for _, x := range w {
			log = append(log, written{x, time})
		}
		checkPut(t, l, w, time, next)
		l = next
	}
	return l, log
}

// checkPut states the promise: the writes are read from their time on, and everything else is read as before.
func checkPut(t *testing.T, before []impl.Cell, w []impl.Write, time int, after []impl.Cell) {
	t.Helper()
	wantGoodCells(t, after, true)
	for _, key := range modelKeys {
		i := slices.IndexFunc(w, func(x impl.Write) bool { return x.Key == key })
		for at := range modelTimes + 1 {
			val, there, _ := impl.CellAt(before, key, at)
			if i >= 0 && at >= time {
				val, there = w[i].Val, !w[i].Gone
			}
			wantCellAt(t, after, key, at, val, there, true)
		}
		if i >= 0 {
			wantLastTime(t, after, key, time, true)
			wantNoPut(t, after, w, time)
			wantNoPut(t, after, w[i:i+1], time)
		}
	}
}

func TestAWriteIsVisibleFromItsTimeOn(t *testing.T) {
	r := rand.New(rand.NewPCG(3, 3))
	for range 60 {
		l, log := randomHistory(t, r)
		for at := range modelTimes + 1 {
			var rows []impl.Write
			for _, key := range modelKeys {
				val, there := modelAt(log, key, at)
				wantCellAt(t, l, key, at, val, there, true)
				if there {
					rows = append(rows, store(key, val))
				}
			}
			wantCellsAt(t, l, at, rows, true)
		}
	}
}

func TestTrimCellsKeepsTheReadsFromTheFloorOn(t *testing.T) {
	r := rand.New(rand.NewPCG(3, 4))
	for range 60 {
		l, _ := randomHistory(t, r)
		for floor := range modelTimes + 1 {
			wantTrim(t, l, floor, trimmed(l, floor), true)
			kept, _ := impl.TrimCells(l, floor)
			wantGoodCells(t, kept, true)
			wantTrim(t, kept, floor, kept, true)
			for at := floor; at <= modelTimes+1; at++ {
				rows, _ := impl.CellsAt(l, at)
				wantCellsAt(t, kept, at, rows, true)
			}
		}
	}
}

// trimmed leaves out one version after the other, in the words of the chapter.
func trimmed(l []impl.Cell, floor int) []impl.Cell {
	var kept []impl.Cell
	for _, c := range l {
		var vers []impl.Ver
		for i, v := range c.Vers {
			followed := slices.ContainsFunc(c.Vers[i+1:], func(x impl.Ver) bool { return x.Time <= floor })
			if !followed && !(v.Gone && v.Time <= floor) {
				vers = append(vers, v)
			}
		}
		if vers != nil {
			kept = append(kept, cell(c.Key, vers...))
		}
	}
	return kept
}
