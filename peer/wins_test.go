package peer

import (
	"math/rand"
	"slices"
	"strings"
	"testing"
)

// small returns s with the letters from A to Z in small, by a list of them.
func small(s string) string {
	b := []byte(s)
	for i, c := range b {
		if at := strings.IndexByte("ABCDEFGHIJKLMNOPQRSTUVWXYZ", c); at >= 0 {
			b[i] = "abcdefghijklmnopqrstuvwxyz"[at]
		}
	}
	return string(b)
}

// wins holds Wins against a plain comparison, both ways round.
func wins(t testing.TB, mine, theirs string) bool {
	t.Helper()
	order := strings.Compare(small(mine), small(theirs))
	if got := Wins(mine, theirs); got != (order > 0) {
		t.Fatalf("Wins(%q, %q): %t", mine, theirs, got)
	}
	if got := Wins(theirs, mine); got != (order < 0) {
		t.Fatalf("Wins(%q, %q): %t", theirs, mine, got)
	}
	return order > 0
}

func TestWins(t *testing.T) {
	for _, c := range []struct {
		name, mine, theirs string
		want, back         bool // and for the two names the other way round
	}{
		{"example: case does not count", "B.x", "a.y", true, false},
		{"example: the same but for case", "ab", "AB", false, false},
		{"example: a proper prefix", "abc", "ab", true, false},
		{"the same", "a.host", "a.host", false, false},
		{"the same but for the case of some", "aBcDeF.hOsT", "AbCdEf.HoSt", false, false},
		{"the same but for case, A and Z", "AZaz", "azAZ", false, false},
		{"a prefix but for case", "ABC", "ab", true, false},
		{"a prefix but for case, the other one great", "abc", "AB", true, false},
		{"a prefix, and a zero byte", "ab\x00", "ab", true, false},
		{"a prefix, and a byte 255", "ab\xff", "AB", true, false},
		{"longer, but less", "abz", "b", false, true},
		{"longer, but less, in case", "ABZ", "b", false, true},
		{"empty and empty", "", "", false, false},
		{"one byte and empty", "a", "", true, false},
		{"a zero byte and empty", "\x00", "", true, false},
		{"a great letter and empty", "A", "", true, false},
		{"first byte", "bxyz", "axyz", true, false},
		{"first byte, in case", "Bxyz", "aXYZ", true, false},
		{"first byte, the great one less", "Axyz", "bxyz", false, true},
		{"last byte", "xyzb", "xyza", true, false},
		{"last byte, in case", "xyzB", "XYZa", true, false},
		{"last byte, the great one less", "xyzA", "xyzb", false, true},
		{"the first byte that parts counts", "abz", "acA", false, true},
		{"@ and A", "A", "@", true, false},
		{"@ and a", "a", "@", true, false},
		{"@ and `", "`", "@", true, false},
		{"[ and Z", "Z", "[", true, false},
		{"[ and z", "z", "[", true, false},
		{"[ and A", "A", "[", true, false},
		{"[ and a", "a", "[", true, false},
		{"[ and {", "{", "[", true, false},
		{"_ and A", "A", "_", true, false},
		{"` and a", "a", "`", true, false},
		{"` and A", "A", "`", true, false},
		{"{ and z", "{", "z", true, false},
		{"{ and Z", "{", "Z", true, false},
		{"digit and letter", "a", "9", true, false},
		{"digit and great letter", "A", "9", true, false},
		{"- and .", ".", "-", true, false},
		{"- and the end", "a-b", "a", true, false},
		{"bytes have no sign", "\x80", "\x7f", true, false},
		{"255 and a letter", "\xff", "z", true, false},
		{"255 and 254", "\xff", "\xfe", true, false},
		{"128 and 160: no case beyond 127", "\xa0", "\x80", true, false},
		{"193 and 225: no case beyond 127", "\xe1", "\xc1", true, false},
		{"E and e with an accent", "\u00e9", "\u00c9", true, false},
		{"K and the sign of a kelvin", "\u212a", "k", true, false},
		{"K and the sign of a kelvin, great", "\u212a", "K", true, false},
		{"s and a long s", "\u017f", "S", true, false},
		{"bytes that are no text", "\xc3\x28\xff", "\xc3\x28\xfe", true, false},
	} {
		if got := Wins(c.mine, c.theirs); got != c.want {
			t.Errorf("%s: Wins(%q, %q): %t", c.name, c.mine, c.theirs, got)
		}
		if got := Wins(c.theirs, c.mine); got != c.back {
			t.Errorf("%s: Wins(%q, %q): %t", c.name, c.theirs, c.mine, got)
		}
		wins(t, c.mine, c.theirs)
	}
}

// TestWinsByBytes has every pair of bytes, alone, and as the first, the last and a middle one of longer names.
func TestWinsByBytes(t *testing.T) {
	for a := range 256 {
		for b := range 256 {
			x, y := string([]byte{byte(a)}), string([]byte{byte(b)})
			one := wins(t, x, y)
			if wins(t, x+"tail", y+"TAIL") != one || wins(t, "head"+x, "HEAD"+y) != one || wins(t, "h"+x+"t", "H"+y+"T") != one {
				t.Errorf("%d and %d: it depends on where they stand", a, b)
			}
			if one && (wins(t, y+"z", x) || !wins(t, x, y+"z")) {
				t.Errorf("%d and %d: the byte behind counts", a, b)
			}
		}
	}
}

// TestWinsIsAnOrder: of two names one wins, unless they are the same but for case; and what wins against a winner wins against the one that lost.
func TestWinsIsAnOrder(t *testing.T) {
	r := rand.New(rand.NewSource(20))
	letters := []byte("aAbBzZ@[`{.-09\x00\x7f\x80\xff")
	names := []string{""}
	for range 300 {
		b := make([]byte, r.Intn(5))
		for i := range b {
			b[i] = letters[r.Intn(len(letters))]
		}
		names = append(names, string(b))
	}
	for _, a := range names {
		for _, b := range names {
			won, lost := Wins(a, b), Wins(b, a)
			if won && lost || (won || lost) != (small(a) != small(b)) {
				t.Fatalf("%q and %q: %t, %t", a, b, won, lost)
			}
			wins(t, a, b)
		}
	}
	slices.SortFunc(names, func(a, b string) int {
		switch {
		case Wins(a, b):
			return 1
		case Wins(b, a):
			return -1
		}
		return 0
	})
	for i := range names {
		for j := range i {
			if Wins(names[j], names[i]) {
				t.Fatalf("%q wins against %q, which is above it", names[j], names[i])
			}
		}
	}
}

// TestWinsLong has names of many bytes that part in the last one alone, or in none.
func TestWinsLong(t *testing.T) {
	many, great := strings.Repeat("ab.", 100000), strings.Repeat("AB.", 100000)
	if Wins(many, great) || Wins(great, many) {
		t.Errorf("the same but for case")
	}
	if !Wins(many+"b", great+"A") || Wins(great+"A", many+"b") {
		t.Errorf("the last byte")
	}
	if !Wins(great+"\x00", many) || Wins(many, great+"\x00") {
		t.Errorf("a proper prefix")
	}
}
