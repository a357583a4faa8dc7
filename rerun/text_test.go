package rerun_test

import (
	"math/big"
	"slices"
	"strconv"
	"strings"
	"testing"

	"rerun/api"
	"rerun/rerun"
)

func TestP5PrintByHand(t *testing.T) {
	for _, c := range []struct {
		list []int
		text string
	}{
		{nil, ""}, {[]int{}, ""}, {[]int{0}, "0"}, {[]int{9}, "9"}, {[]int{10}, "10"}, {[]int{63}, "63"},
		{[]int{0, 0, 0, 1, 2, 2}, "0*3 1 2*2"}, {[]int{1, 0, 1, 1}, "1 0 1*2"}, {[]int{6, 61, 6, 6}, "6 61 6*2"}, {[]int{1, 11, 1}, "1 11 1"},
		{times(9, 5), "5*9"}, {times(10, 5), "5*10"}, {times(19, 63), "63*19"}, {times(100, 1), "1*100"}, {times(500, 0), "0*500"}, {times(500, 63), "63*500"},
		{append(times(250, 7), times(250, 8)...), "7*250 8*250"}, {repeated(250, 0, 1), strings.TrimSpace(strings.Repeat("0 1 ", 250))},
	} {
		if s, e := rerun.Print(c.list); s != c.text || e != api.OK {
			t.Errorf("P5: Print(%v): %q, %d, want %q", c.list, s, e, c.text)
		}
		if l, at, e := rerun.Parse(c.text); !slices.Equal(l, c.list) || at != 0 || e != api.OK {
			t.Errorf("P5: Parse(%q): %v, %d, %d, want %v", c.text, l, at, e, c.list)
		}
	}
}

func TestP5PrintEdges(t *testing.T) {
	for k, c := range []struct {
		list []int
		want api.Errno
	}{
		{times(500, 63), api.OK}, {times(501, 0), api.ErrArg}, {times(501, 64), api.ErrArg}, {times(100000, 1), api.ErrArg}, {repeated(251, 0, 1), api.ErrArg},
		{[]int{-1}, api.ErrArg}, {[]int{0}, api.OK}, {[]int{63}, api.OK}, {[]int{64}, api.ErrArg}, {[]int{least}, api.ErrArg}, {[]int{greatest}, api.ErrArg},
		{[]int{0, 0, -1}, api.ErrArg}, {[]int{64, 0}, api.ErrArg}, {append(times(499, 2), 64), api.ErrArg}, {append(times(499, 2), 63), api.OK},
	} {
		s, e := rerun.Print(c.list)
		if e != c.want || (s == "") != (e != api.OK) {
			t.Errorf("P5: Print: line %d: %q, %d, want %d", k, s, e, c.want)
		}
	}
}

// Each number with each number of times, alone and behind another one.
func TestP5ParseReadsWhatPrintWrites(t *testing.T) {
	d := dice(5)
	var lists [][]int
	for n := range 64 {
		for k := range 500 {
			lists = append(lists, times(k+1, n))
		}
		for m := range 64 {
			lists = append(lists, []int{n, m}, []int{n, n, m}, []int{n, m, m, n})
		}
	}
	for range 5000 {
		lists = append(lists, anySchedule(&d, d.roll(501)))
	}
	for _, l := range lists {
		s, e := rerun.Print(l)
		if e != api.OK {
			t.Fatalf("P5: Print(%v): %d", l, e)
		}
		if got, at, e := rerun.Parse(s); !slices.Equal(got, l) || at != 0 || e != api.OK {
			t.Fatalf("P5: Parse(%q): %v, %d, %d, want %v", s, got, at, e, l)
		}
	}
}

// Each kind of mistake, and where the text goes wrong.
func TestP5ParseFaults(t *testing.T) {
	big := "99999999999999999999999999"
	for _, c := range []struct {
		text string
		at   int
	}{
		{" ", 0}, {"*", 0}, {"x", 0}, {"-1", 0}, {"+1", 0}, {"\n", 0}, {"\x00", 0}, {"\xff", 0}, {"é", 0}, {"٣", 0}, {" 0", 0}, {"*2", 0},
		{"0 ", 2}, {"0*2 ", 4}, {"0  1", 2}, {"0 *2", 2}, {"0 x", 2}, {"0 -1", 2}, {"0\t1", 1}, {"0\n", 1}, {"0,1", 1}, {"0x", 1}, {"0\u00a01", 1},
		{"00", 1}, {"01", 1}, {"07", 1}, {"0*02", 2}, {"1 01", 3}, {"1 00", 3},
		{"64", 1}, {"65", 1}, {"69*2", 1}, {"70", 1}, {"80", 1}, {"99", 1}, {"100", 2}, {"630", 2}, {"599", 2}, {"0 64", 3}, {"0 630", 4}, {big, 1}, {"1" + big, 2},
		{"0 0", 2}, {"7 7", 2}, {"7 70", 2}, {"8 8", 2}, {"9 9", 2}, {"0*2 0", 4}, {"0*2 0*3", 4}, {"7 8 8", 4},
		{"1 1", 3}, {"1 1 2", 3}, {"1 1*2", 3}, {"1 1x", 3}, {"1 10 1 1", 8}, {"6 6", 3}, {"6 6 7", 3}, {"6 6*2", 3}, {"6 64", 3}, {"6 67", 3}, {"5 5", 3}, {"1*2 1", 5}, {"1*2 1*3", 5},
		{"63 63", 4}, {"63 64", 4}, {"60 60", 4}, {"10 10", 4}, {"12 12", 4}, {"12 12*2", 4}, {"12 1 1", 6}, {"61 6 61 6 6", 11},
		{"0*", 2}, {"0*x", 2}, {"0* 1", 2}, {"0**2", 2}, {"0*-1", 2}, {"0*0", 2}, {"0*1", 3}, {"0*1 1", 3}, {"0*1x", 3}, {"0*1*2", 3}, {"5 0*1", 5}, {"5 0*", 4}, {"0*2*3", 3}, {"0*12x", 4}, {"0*2x", 3}, {"0*2.", 3},
		{"0*501 x", 6}, {"0*501 ", 6}, {"0*501 0", 6}, {"0*501*", 5}, {"0*501x", 5}, {"0*250 1*251 ", 12}, {"0*" + big + " ", 29}, {"0*" + big + " 0", 29}, {"0*" + big + "x", 28}, {"0*" + big + " 1*1", 32},
		{"0*18446744073709551616x", 22}, {strings.Repeat("0 1 ", 300), 1200}, {strings.Repeat("0 1 ", 300) + "0 0", 1202},
	} {
		if l, at, e := rerun.Parse(c.text); len(l) != 0 || at != c.at || e != api.ErrText {
			t.Errorf("P5: Parse(%q): %v, %d, %d, want ErrText and %d", c.text, l, at, e, c.at)
		}
	}
}

func TestP5ParseTooManyNumbers(t *testing.T) {
	full := strings.TrimSpace(strings.Repeat("0 1 ", 250))
	for _, s := range []string{
		"0*501", "63*501", "0*1000", "0*5000", "0*250 1*251", "0*500 1", "0*499 1*2", "0 1*500", "0*501 1", "0*501 1*501", full + " 0", full + " 0*2",
		"0*2147483648", "0*4294967296", "0*4294967297 1", "0*9223372036854775807", "0*9223372036854775808", "0*18446744073709551616", "0*18446744073709551618", "0*9223372036854775807 1*9223372036854775807 2*3",
		"0*" + strings.Repeat("9", 10000), "0*1" + strings.Repeat("0", 10000) + " 1",
	} {
		if l, at, e := rerun.Parse(s); len(l) != 0 || at != 0 || e != api.ErrText {
			t.Errorf("P5: Parse(%.40q): %v, %d, %d, want ErrText and 0", s, l, at, e)
		}
	}
	for _, s := range []string{"0*500", full, "0*499 1", "0*250 1*250", "1 0*499"} {
		if l, at, e := rerun.Parse(s); len(l) != 500 || at != 0 || e != api.OK {
			t.Errorf("P5: Parse(%.40q): %d numbers, %d, %d, want 500", s, len(l), at, e)
		}
	}
}

// digits tells whether s is a number as a text has it.
func digits(s string) bool {
	return s == "0" || s != "" && s[0] != '0' && strings.Trim(s, "0123456789") == ""
}

// isText tells whether s is a text of a schedule, with however many numbers.
// It looks at the text as a whole, word by word.
func isText(s string) bool {
	if s == "" {
		return true
	}
	last := ""
	for word := range strings.SplitSeq(s, " ") {
		thread, count, starred := strings.Cut(word, "*")
		n, err := strconv.Atoi(thread)
		if !digits(thread) || err != nil || n > 63 || thread == last {
			return false
		}
		if starred && (!digits(count) || count == "0" || count == "1") {
			return false
		}
		last = thread
	}
	return true
}

// tooLong tells whether s, which is a text, has more numbers than a schedule.
func tooLong(s string) bool {
	sum := new(big.Int)
	for word := range strings.SplitSeq(s, " ") {
		_, count, starred := strings.Cut(word, "*")
		n := big.NewInt(1)
		if starred {
			n.SetString(count, 10)
		}
		sum.Add(sum, n)
	}
	return sum.Cmp(big.NewInt(500)) > 0
}

// goesOn tells whether some text begins with s: then one does that has at most one digit more.
func goesOn(s string) bool {
	for d := range 10 {
		if isText(s + strconv.Itoa(d)) {
			return true
		}
	}
	return isText(s)
}

// longest is the length of the longest beginning of s with which some text begins.
func longest(s string) int {
	n := len(s)
	for !goesOn(s[:n]) {
		n--
	}
	return n
}

func checkParse(t *testing.T, s string) bool {
	t.Helper()
	l, at, e := rerun.Parse(s)
	switch {
	case !isText(s):
		if want := longest(s); len(l) != 0 || at != want || e != api.ErrText {
			t.Fatalf("P5: Parse(%q): %v, %d, %d, want ErrText and %d", s, l, at, e, want)
		}
		return false
	case tooLong(s):
		if len(l) != 0 || at != 0 || e != api.ErrText {
			t.Fatalf("P5: Parse(%q): %v, %d, %d, want ErrText and 0", s, l, at, e)
		}
	default:
		again, f := rerun.Print(l)
		if at != 0 || e != api.OK || again != s || f != api.OK {
			t.Fatalf("P5: Parse(%q): %v, %d, %d; printed again %q, %d", s, l, at, e, again, f)
		}
	}
	return true
}

// All texts of up to five of some bytes.
func TestP5ParseShortTexts(t *testing.T) {
	good := 0
	list := []string{""}
	for range 6 {
		var longer []string
		for _, s := range list {
			if checkParse(t, s) {
				good++
			}
			if len(s) < 5 {
				for _, b := range "01367* x" {
					longer = append(longer, s+string(b))
				}
			}
		}
		list = longer
	}
	if good < 1000 {
		t.Errorf("only %d texts", good)
	}
}

// Each byte behind each kind of beginning.
func TestP5ParseAnyByte(t *testing.T) {
	for _, ahead := range []string{"", "0", "5", "6", "7", "63", "0 ", "5 5", "6 6", "63 6", "0*", "0*1", "0*2", "0*50", "0*500 ", "0*501"} {
		for b := range 256 {
			for _, behind := range []string{"", "1", " 8"} {
				checkParse(t, ahead+string([]byte{byte(b)})+behind)
			}
		}
	}
}

// Longer texts, of words that are right and some that are not.
func TestP5ParseLongTexts(t *testing.T) {
	d := dice(55)
	good := 0
	for range 30000 {
		s := ""
		for range d.roll(8) {
			s += oneOf(&d, "0", "1", "6", "7", "10", "12", "6", "60", "63", strconv.Itoa(d.roll(66)))
			s += oneOf(&d, "", "", "", "*2", "*12", "*3", "*400", "*501", "*"+strconv.Itoa(d.roll(700)))
			s += " "
		}
		s = strings.TrimSuffix(s, " ")
		if d.roll(3) == 0 && s != "" {
			i := d.roll(len(s))
			s = s[:i] + oneOf(&d, "", "0", " ", "*", "x", "1", "\xff") + s[min(len(s), i+d.roll(2)):]
		}
		if checkParse(t, s) {
			good++
		}
	}
	if good < 1000 || good > 29000 {
		t.Errorf("%d texts of 30000", good)
	}
}

// The document's own examples.
func TestP5Examples(t *testing.T) {
	if s, e := rerun.Print([]int{0, 0, 0, 1, 2, 2}); s != "0*3 1 2*2" || e != api.OK {
		t.Errorf("P5: %q, %d", s, e)
	}
	for s, want := range map[string]int{"0*1": 3, "0  1": 2, "0 0": 2, "6 6": 3} {
		if l, at, e := rerun.Parse(s); len(l) != 0 || at != want || e != api.ErrText {
			t.Errorf("P5: Parse(%q): %v, %d, %d, want ErrText and %d", s, l, at, e, want)
		}
	}
}
