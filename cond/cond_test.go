package cond_test

import (
	"math/big"
	"strings"
	"testing"

	"preamble/cond"
)

func TestD1Num(t *testing.T) {
	for _, x := range []struct {
		s    string
		want int
	}{
		{"0", 0}, {"7", 7}, {"12", 12}, {"1234567890", 1234567890},
		{"00", 0}, {"017", 15}, {"007", 7}, {"0777", 511}, {"01234567", 342391},
		{"0x0", 0}, {"0x1f", 31}, {"0X1F", 31}, {"0xaBcDeF", 0xabcdef}, {"0x00001", 1}, {"0x0123456789", 0x123456789},
		{"1U", 1}, {"1u", 1}, {"1L", 1}, {"1l", 1}, {"12uL", 12}, {"12LLU", 12}, {"12ulULulUL", 12}, {"0u", 0}, {"0L", 0}, {"017L", 15}, {"0x1fL", 31}, {"0XfuLL", 15},
		{"9223372036854775807", 1<<63 - 1}, {"9223372036854775807UL", 1<<63 - 1}, {"0777777777777777777777", 1<<63 - 1}, {"0x7fffffffffffffff", 1<<63 - 1},
		{"0x00000000000000000000007fffffffffffffff", 1<<63 - 1}, {"0000000000000000000000000000000001", 1},
	} {
		if n, good := cond.Num(x.s); n != x.want || !good {
			t.Errorf("Num(%q) is %d %t, not %d true", x.s, n, good, x.want)
		}
	}
}

func TestD1NoNum(t *testing.T) {
	for _, s := range []string{
		"", "U", "u", "L", "l", "UL", "LLL", "08", "09", "018", "0a", "0b1", "0o7", "0x", "0X", "0xL", "0XuL", "0xg", "x1", "0x0x1", "00x1", "x", "a", "f",
		"1a", "1x", "1UL2", "1 L", "1.", "1.5", ".5", "1e3", "1e+3", "1f", "1_0", "0_1", "0x_1", "+1", "-1", "0x-1", "0x+1", "0+1", " 1", "1 ", "1\n", "1\x00", "'1'", "\"1\"", "\xff",
		"9223372036854775808", "9223372036854775808UL", "18446744073709551615", "18446744073709551616", "18446744073709551617", "01000000000000000000000", "0x8000000000000000", "0xffffffffffffffff", "0x10000000000000000", "0x10000000000000001",
		strings.Repeat("9", 1000), "0x" + strings.Repeat("f", 1000), "0" + strings.Repeat("7", 1000),
	} {
		if n, good := cond.Num(s); n != 0 || good {
			t.Errorf("Num(%q) is %d %t, not 0 false", s, n, good)
		}
	}
}

// secondNum reads a number byte by byte, by D1's words.
func secondNum(s string) (int, bool) {
	for len(s) > 1 && strings.ContainsRune("UuLl", rune(s[len(s)-1])) {
		s = s[:len(s)-1]
	}
	digits, base := "0123456789", 10
	switch {
	case strings.HasPrefix(strings.ToLower(s), "0x"):
		digits, base, s = "0123456789abcdef", 16, strings.ToLower(s[2:])
	case strings.HasPrefix(s, "0"):
		digits, base = "01234567", 8
	}
	n := new(big.Int)
	for _, c := range []byte(s) {
		i := strings.IndexByte(digits, c)
		if i < 0 {
			return 0, false
		}
		n.Add(n.Mul(n, big.NewInt(int64(base))), big.NewInt(int64(i)))
	}
	if s == "" || !n.IsInt64() {
		return 0, false
	}
	return int(n.Int64()), true
}

func TestD1NumOfAllShortTexts(t *testing.T) {
	const bytes = "01789aFgxXuL.+_' "
	var try func(s string)
	try = func(s string) {
		n, good := cond.Num(s)
		if m, fine := secondNum(s); n != m || good != fine {
			t.Errorf("Num(%q) is %d %t, not %d %t", s, n, good, m, fine)
		}
		if len(s) == 4 {
			return
		}
		for i := range len(bytes) {
			try(s + bytes[i:i+1])
		}
	}
	try("")
}

func TestD1Char(t *testing.T) {
	for _, x := range []struct {
		s    string
		want int
	}{
		{`'a'`, 'a'}, {`' '`, ' '}, {`'0'`, '0'}, {`'"'`, '"'}, {"'\n'", 10}, {"'\x00'", 0}, {"'\x80'", 128}, {"'\xff'", 255},
		{`'\n'`, 10}, {`'\t'`, 9}, {`'\0'`, 0}, {`'\\'`, '\\'}, {`'\''`, '\''}, {`'\"'`, '"'},
		// What stands around may be any two bytes.
		{`"a"`, 'a'}, {`017`, '1'}, {`abc`, 'b'}, {`'a"`, 'a'}, {`\a\`, 'a'}, {`x\ny`, 10}, {`\\\\`, '\\'}, {`'\'x`, '\''},
	} {
		if n, good := cond.Char(x.s); n != x.want || !good {
			t.Errorf("Char(%q) is %d %t, not %d true", x.s, n, good, x.want)
		}
	}
}

func TestD1NoChar(t *testing.T) {
	for _, s := range []string{
		"", "'", "''", "a", "ab", `'''`, `'\'`, `\\\`, `'ab'`, `'abc'`, `'\x'`, `'\r'`, `'\a'`, `'\1'`, `'\N'`, `'\T'`, `'\?'`, "'\\\n'", `'\00'`, `'\n`, `'\nn'`, `''n'`, `'n\'`, "'\u00e4'", `'\x41'`,
	} {
		if n, good := cond.Char(s); n != 0 || good {
			t.Errorf("Char(%q) is %d %t, not 0 false", s, n, good)
		}
	}
}

func TestD1CharOfAllBytes(t *testing.T) {
	escapes := map[byte]int{'n': 10, 't': 9, '0': 0, '\\': 92, '\'': 39, '"': 34}
	for i := range 256 {
		c := byte(i)
		n, good := cond.Char("'" + string([]byte{c}) + "'")
		if plain := c != '\\' && c != '\''; good != plain || plain && n != i {
			t.Errorf("Char of byte %d is %d %t", i, n, good)
		}
		n, good = cond.Char("'\\" + string([]byte{c}) + "'")
		if want, known := escapes[c]; good != known || n != want {
			t.Errorf("Char of \\ and byte %d is %d %t", i, n, good)
		}
	}
}
