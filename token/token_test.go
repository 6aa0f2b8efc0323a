package token

import (
	"strings"
	"testing"
)

func texts(tokens []Token) string {
	var all []string
	for _, t := range tokens {
		all = append(all, t.Text)
	}
	return strings.Join(all, " ")
}

func TestKinds(t *testing.T) {
	text := "a 1 'a' ( ) , . = < > + - * select from where group by having and or not is null exists count sum min max now within ever"
	tokens, ok := Scan(text)
	if !ok || len(tokens) != int(Ever) {
		t.Fatalf("Scan: %d tokens, %t", len(tokens), ok)
	}
	for i, piece := range strings.Fields(text) {
		if want := (Token{Name + Kind(i), piece}); tokens[i] != want {
			t.Errorf("%q is %v, want %v", piece, tokens[i], want)
		}
	}
}

func TestScan(t *testing.T) {
	for text, want := range map[string]string{
		"":                  "",
		"   ":               "",
		"a1b":               "a 1 b",
		"within5select":     "within 5 select",
		"sixlet.from":       "sixlet . from",
		"'a''b'":            "'a' 'b'",
		"1'a'2":             "1 'a' 2",
		"a.x=1":             "a . x = 1",
		"count(*)":          "count ( * )",
		"1000000000000,0":   "1000000000000 , 0",
		"-1000000000000":    "-1000000000000",
		"'12345678''' from": "'12345678' '' from",
	} {
		if got, ok := Scan(text); texts(got) != want || !ok {
			t.Errorf("Scan(%q) = %q, %t, want %q", text, texts(got), ok, want)
		}
	}
}

func TestScanMinus(t *testing.T) {
	for _, ahead := range append([]string{"", "(", ",", "=", "<", ">", "+", "-", "*"}, keywords[:]...) {
		if got, ok := Scan(ahead + " -7"); !ok || got[len(got)-1] != (Token{Number, "-7"}) {
			t.Errorf("behind %q: %v, %t", ahead, got, ok)
		}
	}
	for _, ahead := range []string{"a", "1", "-1", "'a'", ")", "."} {
		if got, ok := Scan(ahead + " -7"); !ok || got[len(got)-1] != (Token{Number, "7"}) {
			t.Errorf("behind %q: %v, %t", ahead, got, ok)
		}
	}
	for text, want := range map[string]string{
		"- 7":    "- 7",
		"--7":    "- -7",
		"---7":   "- - -7",
		"1-7":    "1 - 7",
		"1--7":   "1 - -7",
		"-1-7":   "-1 - 7",
		"-":      "-",
		"-a":     "- a",
		"(now-7": "( now -7",
	} {
		if got, ok := Scan(text); texts(got) != want || !ok {
			t.Errorf("Scan(%q) = %q, %t, want %q", text, texts(got), ok, want)
		}
	}
}

func TestScanWrong(t *testing.T) {
	for _, text := range []string{
		"A", "é", "a;", "\t", "\n", "\x00", "\xff", "/", "!=", "\"a\"", "_", "[", "`", "{", ":",
		"'", "'a", "'a' '", "'A'", "'a b'", "'123456789'",
		"01", "00", "-0", "-01", "a.01", "1000000000001", "-1000000000001", "99999999999999999999",
		"sevenls", "selectx", "selectselect",
	} {
		if got, ok := Scan(text); got != nil || ok {
			t.Errorf("Scan(%q) = %v, %t", text, got, ok)
		}
	}
}

func TestWrite(t *testing.T) {
	tokens, _ := Scan("select a . x,count ( * ),( 1+ 2 ) where ( exists ( not ( a . x=( 'a'- -1")
	want := "select a.x, count(*), (1 + 2) where (exists (not (a.x = ('a' - -1"
	if got := Write(tokens); got != want {
		t.Errorf("Write: %q, want %q", got, want)
	}
	if got := Write(nil); got != "" {
		t.Errorf("Write of nothing: %q", got)
	}
}

func TestIsName(t *testing.T) {
	for _, text := range []string{"a", "z", "sixlet", "log", "touch", "selec", "i"} {
		if !IsName(text) {
			t.Errorf("%q is a name", text)
		}
	}
	for _, text := range append([]string{"", "sevenls", "A", "a1", "1", "a b", " a", "a ", "é", "a.b", "a\x00", strings.Repeat("a", 100000)}, keywords[:]...) {
		if IsName(text) {
			t.Errorf("%.20q is no name", text)
		}
	}
}
