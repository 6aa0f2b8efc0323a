package value

import (
	"strings"
	"testing"
	"unsafe"
)

func TestRead(t *testing.T) {
	for text, want := range map[string]Value{
		"null":           {},
		"0":              {Kind: Number},
		"7":              {Kind: Number, Number: 7},
		"-7":             {Kind: Number, Number: -7},
		"1000000000000":  {Kind: Number, Number: 1000000000000},
		"-1000000000000": {Kind: Number, Number: -1000000000000},
		"''":             {Kind: Word},
		"'a'":            {Kind: Word, Word: "a"},
		"'null'":         {Kind: Word, Word: "null"},
		"'01'":           {Kind: Word, Word: "01"},
		"'az09az09'":     {Kind: Word, Word: "az09az09"},
	} {
		if got, ok := Read(text); got != want || !ok {
			t.Errorf("Read(%q) = %v, %t, want %v", text, got, ok, want)
		}
	}
}

func TestReadWrong(t *testing.T) {
	for _, text := range []string{
		"", " ", "-", "--1", "+1", "00", "01", "-0", "-01", "1 ", " 1", "- 1", "1.5", "1e3", "0x1", "1_0", "١",
		"1000000000001", "-1000000000001", "9999999999999", "10000000000000", "18446744073709551616",
		strings.Repeat("9", 100000),
		"'", "'a", "a'", "a", "'A'", "'a b'", "'a'b'", "'''", "'é'", "'-'", "'_'", "'az09az09a'", "' '", "\"a\"",
		"'" + strings.Repeat("a", 100000) + "'",
		"Null", "NULL", "nul", "nulls", " null", "\x00", "'\x00'", "/", ":", "'`'", "'{'",
	} {
		if got, ok := Read(text); got != (Value{}) || ok {
			t.Errorf("Read(%.20q) = %v, %t", text, got, ok)
		}
	}
}

func TestReadKeepsNothing(t *testing.T) {
	memory := []byte("'a'")
	got, _ := Read(unsafe.String(&memory[0], len(memory)))
	memory[1] = 'b'
	if got.Word != "a" {
		t.Errorf("the word is %q now", got.Word)
	}
}

func TestCompare(t *testing.T) {
	order := []Value{{}, OfNumber(-1000000000000), OfNumber(-2), OfNumber(-1), {Kind: Number}, OfNumber(1), OfNumber(10), OfWord(""), OfWord("0"), OfWord("10"), OfWord("9"), OfWord("a"), OfWord("aa"), OfWord("b")}
	for i, a := range order {
		for j, b := range order {
			if got := Compare(a, b); got < 0 != (i < j) || got > 0 != (i > j) {
				t.Errorf("Compare(%v, %v) = %d", a, b, got)
			}
		}
	}
}

func TestText(t *testing.T) {
	for _, text := range []string{"null", "0", "7", "-7", "1000000000000", "-1000000000000", "''", "'a'", "'null'", "'01'"} {
		if v, ok := Read(text); !ok || v.Text() != text {
			t.Errorf("%s is written %s", text, v.Text())
		}
	}
}
