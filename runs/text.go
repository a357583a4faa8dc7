package runs

import (
	"strconv"
	"strings"

	"rerun/api"
)

// tooMany stands for every count that no schedule has room for.
const tooMany = api.MaxSchedule + 1

// Print writes the text of a schedule, which must be valid.
func Print(schedule []int) string {
	var words []string
	for _, r := range Of(schedule) {
		words = append(words, word(r))
	}
	return strings.Join(words, " ")
}

func word(r Run) string {
	if r.Count == 1 {
		return strconv.Itoa(r.Thread)
	}
	return strconv.Itoa(r.Thread) + "*" + strconv.Itoa(r.Count)
}

// Parse reads the text of a schedule. If it is none, the answer is false and
// the length of its longest beginning with which some text begins; if it has
// too many numbers, false and 0.
func Parse(text string) ([]int, int, bool) {
	var schedule []int
	s := scanner{text: text}
	last, total := none, 0
	for more := text != ""; more; more = s.skip(' ') {
		r, ok := s.run(last)
		if !ok {
			return nil, s.at, false
		}
		last = r.Thread
		total = min(total+r.Count, tooMany)
		if total < tooMany {
			schedule = Append(schedule, r)
		}
	}
	if s.at < len(text) {
		return nil, s.at, false
	}
	if total == tooMany {
		return nil, 0, false
	}
	return schedule, 0, true
}

// none is no thread's number: what stands ahead of the first run.
const none = -1

// scanner goes through a text. It never steps over a byte with which no text
// of a schedule goes on, so that at a fault it stands where Parse tells.
type scanner struct {
	text string
	at   int
}

// run reads a run of another thread than the last one.
func (s *scanner) run(last int) (Run, bool) {
	thread, ok := s.thread(last)
	if !ok || !s.skip('*') {
		return Run{Thread: thread, Count: 1}, ok
	}
	count := s.count()
	return Run{Thread: thread, Count: count}, count > 1
}

// thread reads a thread's number, other than the last one.
func (s *scanner) thread(last int) (int, bool) {
	n := none
	for {
		d, ok := s.digit()
		if !ok || !grows(n, d, last) {
			return n, n != none && n != last
		}
		n = max(n, 0)*10 + d
		s.at++
	}
}

// grows tells whether d may stand behind the digits of n (none at first): it
// may if they are all, or begin, the number of a thread that is not the last one.
func grows(n, d, last int) bool {
	if n == 0 {
		return false
	}
	m := max(n, 0)*10 + d
	return m <= api.MaxNumber && m != last || begins(m)
}

// begins tells whether threads' numbers of more digits begin with those of m.
// There are two of them at least, so that one is not the last one.
func begins(m int) bool {
	return m > 0 && 10*m < api.MaxNumber
}

// count reads how often a thread comes: tooMany, if that is more than a
// schedule has room for; 0, if there is no such number.
func (s *scanner) count() int {
	n := 0
	for {
		d, ok := s.digit()
		if !ok || n == 0 && d == 0 {
			return n
		}
		n = min(10*n+d, tooMany)
		s.at++
	}
}

// digit looks at the digit that comes next, and stays ahead of it.
func (s *scanner) digit() (int, bool) {
	if s.at == len(s.text) || s.text[s.at] < '0' || s.text[s.at] > '9' {
		return 0, false
	}
	return int(s.text[s.at] - '0'), true
}

func (s *scanner) skip(b byte) bool {
	if s.at == len(s.text) || s.text[s.at] != b {
		return false
	}
	s.at++
	return true
}
