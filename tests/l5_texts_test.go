package tests

import (
	"fmt"
	"math/rand/v2"
	"regexp"
	"slices"
	"strconv"
	"strings"
	"testing"

	"loop.example/g00850/impl"
)

const mostOpsText = 400

var numberForm = regexp.MustCompile(`\A(?:0|-?[1-9][0-9]{0,5})\z`)

// opsText is the text of valid operations.
func opsText(l []impl.Op) string {
	words := []string{"", "read", "put", "drop", "add", "need", "lack", "is"}
	var texts []string
	for _, o := range l {
		text := words[o.Kind] + " " + o.Key
		if usesVal(o.Kind) {
			text += " " + o.Val
		}
		if usesBy(o.Kind) {
			text += fmt.Sprintf(" %d", o.By)
		}
		texts = append(texts, text)
	}
	return strings.Join(texts, "; ")
}

func wantOpsText(t *testing.T, l []impl.Op, s string, ok bool) {
	t.Helper()
	if got, gotOK := impl.OpsText(l); got != s || gotOK != ok {
		t.Errorf("OpsText(%s) = %q, %v; want %q, %v", short(l), got, gotOK, s, ok)
	}
}

func wantReadOps(t *testing.T, s string, l []impl.Op, ok bool) {
	t.Helper()
	if got, gotOK := impl.ReadOps(s); !slices.Equal(got, l) || gotOK != ok {
		t.Errorf("ReadOps(%.500q) = %s, %v; want %s, %v", s, short(got), gotOK, short(l), ok)
	}
}

func wantNumberIn(t *testing.T, s string, n int, ok bool) {
	t.Helper()
	if got, gotOK := impl.NumberIn(s); got != n || gotOK != ok {
		t.Errorf("NumberIn(%.80q) = %d, %v; want %d, %v", s, got, gotOK, n, ok)
	}
}

func TestNumberIn(t *testing.T) {
	for _, n := range []int{0, 1, 9, 10, 42, 99999, 100000, mostNumber - 1, mostNumber} {
		wantNumberIn(t, strconv.Itoa(n), n, true)
		wantNumberIn(t, strconv.Itoa(-n), -n, true)
	}
	for _, s := range []string{
		"", "-", "--", "-0", "+0", "+1", "+", "00", "01", "-01", "007", "-007", "000000", "-000000", "000001", "--1", "-+1", "+-1", "1-", "1-1",
		"1000000", "-1000000", "1234567", "0000001", "0999999", "-0999999", "9223372036854775808", "18446744073709551617", "4294967297",
		" 1", "1 ", "- 1", "1 1", "1.0", "1.", ".1", "1,0", "1_0", "1e3", "0x1", "a", "1a", "a1", "-a", "\x001", "1\x00", "1\n", "\t1", "\xff", "\u0661", "\uff11",
		strings.Repeat("1", mostVal), strings.Repeat("1", mostVal+1), strings.Repeat("0", 1000), "-" + strings.Repeat("9", 1000),
	} {
		wantNumberIn(t, s, 0, false)
	}
}

func TestNumberInReadsEveryNumber(t *testing.T) {
	for n := -mostNumber - 1000; n <= mostNumber+1000; n++ {
		s := strconv.Itoa(n)
		if isWithin(n, -mostNumber, mostNumber) {
			wantNumberIn(t, s, n, true)
		} else {
			wantNumberIn(t, s, 0, false)
		}
	}
}

func TestNumberInAcceptsOnlyNumbers(t *testing.T) {
	texts := []string{""}
	for i := 0; len(texts[i]) < 5; i++ {
		for _, c := range []string{"-", "+", "0", "1", "9", " ", "a", "/", ":"} {
			texts = append(texts, texts[i]+c)
		}
	}
	for _, s := range texts {
		n := 0
		ok := numberForm.MatchString(s)
		if ok {
			n, _ = strconv.Atoi(s)
		}
		wantNumberIn(t, s, n, ok)
	}
}

func TestTextsOfOps(t *testing.T) {
	for _, c := range []struct {
		l []impl.Op
		s string
	}{
		{nil, ""}, {ops(opRead("a")), "read a"}, {ops(opPut("a", "1")), "put a 1"}, {ops(opDrop("a")), "drop a"}, {ops(opAdd("a", 1)), "add a 1"},
		{ops(opNeed("a", 1)), "need a 1"}, {ops(opLack("a")), "lack a"}, {ops(opIs("a", "1")), "is a 1"},
		{ops(opPut("a", "")), "put a "}, {ops(opIs("a", "")), "is a "}, {ops(opPut("a", ""), opIs("b", ""), opRead("c")), "put a ; is b ; read c"},
		{ops(opAdd("a", 0)), "add a 0"}, {ops(opAdd("a", -mostBy), opNeed("a", mostBy)), "add a -9999; need a 9999"}, {ops(opNeed("a", -1)), "need a -1"},
		{ops(opRead("read"), opPut("put", "put"), opIs("is", "-,_.0")), "read read; put put put; is is -,_.0"}, {ops(opPut("0", "007"), opIs(".", "-0")), "put 0 007; is . -0"},
	} {
		wantOpsText(t, c.l, c.s, true)
		wantReadOps(t, c.s, c.l, true)
	}
}

func TestReadOpsInvertsOpsText(t *testing.T) {
	r := rand.New(rand.NewPCG(5, 2))
	programs := [][]impl.Op{nil, {}, manyOps(mostOps)}
	for _, o := range goodOps() {
		programs = append(programs, ops(o), ops(o, opPut("a", ""), o), slices.Repeat(ops(o), mostOps))
	}
	for range 3000 {
		programs = append(programs, randomOps(r))
	}
	for _, l := range programs {
		wantOpsText(t, l, opsText(l), true)
		wantReadOps(t, opsText(l), l, true)
	}
}

// No valid program has a longer text than this one, so the limit of a text is never met by the text of a program.
func TestTheLongestText(t *testing.T) {
	l := slices.Repeat(ops(opPut(strings.Repeat("z", mostKey), strings.Repeat("_", mostVal))), mostOps)
	s := opsText(l)
	if len(s) != 342 {
		t.Fatalf("the text has %d bytes", len(s))
	}
	wantOpsText(t, l, s, true)
	wantReadOps(t, s, l, true)
	for _, n := range []int{mostOpsText - 1, mostOpsText, mostOpsText + 1, 100000} {
		for _, c := range []string{" ", "z", "_", "0", ";", "; "} {
			wantReadOps(t, s+strings.Repeat(c, n)[:n-len(s)], nil, false)
			wantReadOps(t, strings.Repeat(c, n)[:n], nil, false)
			wantReadOps(t, "add a "+strings.Repeat(c, n)[:n-6], nil, false)
		}
		wantReadOps(t, strings.Repeat("read a; ", n)[:n], nil, false)
		wantReadOps(t, strings.Repeat("lack a; ", n)[:n-6]+"lack a", nil, false)
	}
}

func TestReadOpsChecksTheNumberOfOperations(t *testing.T) {
	for n := range 40 {
		l, want := slices.Repeat(ops(opRead("a")), n), slices.Repeat(ops(opRead("a")), n)
		if n > mostOps {
			want = nil
		}
		wantReadOps(t, opsText(l), want, n <= mostOps)
		if n > 0 {
			wantReadOps(t, opsText(l)+"; ", nil, false)
			wantReadOps(t, "; "+opsText(l), nil, false)
		}
	}
}

func wantNoOps(t *testing.T, texts ...string) {
	t.Helper()
	for _, s := range texts {
		wantReadOps(t, s, nil, false)
	}
}

func TestReadOpsRefusesOtherSeparators(t *testing.T) {
	wantNoOps(t,
		";", "; ", " ", "  ", ";;", "; ; ", " ; ", "\n", "\x00",
		"read a;", "read a; ", "read a ;", ";read a", "; read a", " ; read a", "read a; ; read b", "read a;; read b", "read a; ;read b",
		"read a;read b", "read a read b", "read a ; read b", "read a;  read b", "read a ;read b", "read a, read b", "read a\nread b", "read a;\nread b", "read a;\tread b",
		"put a 1;put b 2", "put a 1 ; put b 2", "put a 1;  put b 2", "put a;put b 2", "put a ;put b 2", "put a; put b 2", "put a  ; put b 2", "put a 1; ; put b 2",
		"is a 1;", "is a 1; ", "is a ;", "is a ; ", "is a; ", "add a 1;", "add a 1; ", "add a 1;add b 2", "add a ; add b 2", "add a; add b 2",
		"read a: read b", "read a| read b", "read a; read b;", "read a; read b; ", "read a; read b; read", "read a; read",
	)
}

func TestReadOpsRefusesOtherBlanks(t *testing.T) {
	for _, word := range []string{"read", "drop", "lack"} {
		wantReadOps(t, word+" a", ops(readOpByForm(word+" a")), true)
		wantNoOps(t, word, word+" ", word+"  ", word+"a", word+"  a", word+" a ", " "+word+" a", word+"\ta", word+"\u00a0a", word+" a\n", word+" a 1", word+" a 0", word+" a b", word+" a  ")
	}
	for _, word := range []string{"put", "is", "add", "need"} {
		wantReadOps(t, word+" a 1", ops(readOpByForm(word+" a 1")), true)
		wantNoOps(t, word, word+" ", word+"  ", word+" a", word+"a 1", word+"  1", word+"  a 1", word+" a  1", word+" a 1 ", " "+word+" a 1", word+" a1", word+"\ta 1", word+" a\t1",
			word+" a 1 1", word+" a 1 0", word+" a 1\n", word+" a  ", word+" a 1 x", word+"  a", word+" "+" 1")
	}
	wantNoOps(t, "add a ", "need a ", "put a", "is a", "put  ", "is  ", "put a; put b ")
}

func TestReadOpsRefusesOtherWords(t *testing.T) {
	wantNoOps(t, " a", " a 1", "read a;  b")
	for _, word := range []string{"a", "reads", "rea", "Read", "READ", "get", "write", "add1", "need?", "islack", "put\x00", "1", "2", "op", "-", "lack.", "\u0280ead"} {
		wantNoOps(t, word, word+" a", word+" a ", word+" a 1", "read a; "+word+" a", word+" a; read a", "put a 1; "+word+" a 1")
	}
}

func TestReadOpsRefusesOtherNumbers(t *testing.T) {
	for _, word := range []string{"add", "need"} {
		for _, n := range []int{-mostBy, -1000, -1, 0, 1, 10, 1000, mostBy} {
			s := fmt.Sprintf("%s a %d", word, n)
			wantReadOps(t, s, ops(readOpByForm(s)), true)
		}
		for _, n := range []string{
			"10000", "-10000", "99999", "-99999", "999999", "1000000", "4294967297", "18446744073709551617", "-0", "+0", "00", "01", "-01", "007", "-007", "0000",
			"00001", "+1", "++1", "--1", "-+1", "+-1", "1-", "1+", "-", "+", "x", "1x", "x1", "0x1", "1e1", "1.0", "1,0", "1_0", "\u0661", "\xff", "one", "1\x00", "-a", "- 1",
		} {
			wantNoOps(t, word+" a "+n, "read a; "+word+" a "+n, word+" a "+n+"; read a")
		}
	}
}

func TestReadOpsRefusesOtherKeysAndValues(t *testing.T) {
	for _, key := range badKeys() {
		for _, word := range []string{"read", "drop", "lack"} {
			wantNoOps(t, word+" "+key, word+" a; "+word+" "+key)
		}
		for _, word := range []string{"put", "is", "add", "need"} {
			wantNoOps(t, word+" "+key+" 1", word+" a 1; "+word+" "+key+" 1")
		}
	}
	for _, val := range badVals() {
		wantNoOps(t, "put a "+val, "is a "+val, "put b 1; put a "+val, "is a "+val+"; read a")
	}
}

var opForm = regexp.MustCompile(`\A(?:(read|drop|lack) ([a-z0-9./]{1,12})|(put|is) ([a-z0-9./]{1,12}) ([a-z0-9.,_-]{0,24})|(add|need) ([a-z0-9./]{1,12}) (0|-?[1-9][0-9]{0,3}))\z`)

// readOpByForm returns the operation of a text, or the zero operation.
func readOpByForm(s string) impl.Op {
	kinds := map[string]int{"read": kindRead, "put": kindPut, "drop": kindDrop, "add": kindAdd, "need": kindNeed, "lack": kindLack, "is": kindIs}
	m := opForm.FindStringSubmatch(s)
	switch {
	case m == nil:
		return impl.Op{}
	case m[1] != "":
		return impl.Op{Kind: kinds[m[1]], Key: m[2]}
	case m[3] != "":
		return impl.Op{Kind: kinds[m[3]], Key: m[4], Val: m[5]}
	}
	by, _ := strconv.Atoi(m[8])
	return impl.Op{Kind: kinds[m[6]], Key: m[7], By: by}
}

func readOpsByForm(s string) ([]impl.Op, bool) {
	var l []impl.Op
	if s != "" {
		for _, text := range strings.Split(s, "; ") {
			l = append(l, readOpByForm(text))
		}
	}
	if slices.Contains(l, impl.Op{}) || len(l) > mostOps {
		return nil, false
	}
	return l, true
}

// wantOpsByForm compares with the form of the texts.
func wantOpsByForm(t *testing.T, s string) bool {
	t.Helper()
	l, ok := readOpsByForm(s)
	wantReadOps(t, s, l, ok)
	if ok {
		wantOpsText(t, l, s, true)
	}
	return ok
}

func TestReadOpsAcceptsOnlyTextsOfOps(t *testing.T) {
	texts := []string{"need a 5; add a -5; add b 5", "put a ; is b ; lack c", opsText(manyOps(mostOps))}
	for _, o := range goodOps() {
		texts = append(texts, opsText(ops(o)), opsText(ops(opPut("a", ""), o)))
	}
	accepted, refused := 0, 0
	for _, s := range texts {
		for i := range len(s) + 1 {
			changed := []string{s[:i], s[i:]}
			for _, c := range []string{"", " ", ";", "; ", "0", "1", "9", "a", "z", "-", "+", ".", "/", ",", "_", "A", "\x00", "\n", "\t", "\xff", "\u0661", "; read a", "lack b; "} {
				changed = append(changed, s[:i]+c+s[i:], s[:max(i-1, 0)]+c+s[i:])
			}
			for _, x := range changed {
				if wantOpsByForm(t, x) {
					accepted++
				} else {
					refused++
				}
			}
		}
	}
	if accepted < 10000 || refused < 10000 {
		t.Errorf("%d texts are accepted and %d refused", accepted, refused)
	}
}

func TestReadOpsReadsWordsInAnyOrderOnlyIfTheyAreOperations(t *testing.T) {
	r := rand.New(rand.NewPCG(5, 3))
	words := []string{"read", "put", "drop", "add", "need", "lack", "is", "a", "b", "1", "-1", "", "a;", "1;", ";", "9999", "x"}
	accepted := 0
	for range 100000 {
		var l []string
		for range 1 + r.IntN(6) {
			l = append(l, words[r.IntN(len(words))])
		}
		if wantOpsByForm(t, strings.Join(l, " ")) {
			accepted++
		}
	}
	if accepted < 500 {
		t.Errorf("only %d texts are accepted", accepted)
	}
}
