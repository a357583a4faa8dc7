package rerun_test

import (
	"encoding/binary"
	"hash/crc32"
	"slices"
	"strings"
	"testing"

	"rerun/api"
	"rerun/rerun"
)

func artifact(p api.Program, schedule []int, v api.Verdict) api.Artifact {
	return api.Artifact{Program: p, Schedule: schedule, Verdict: v}
}

func equalArtifacts(a, b api.Artifact) bool {
	return samePrograms(a.Program.Threads, b.Program.Threads) && slices.Equal(a.Schedule, b.Schedule) && a.Verdict == b.Verdict
}

func isNoArtifact(a api.Artifact) bool {
	return len(a.Program.Threads) == 0 && len(a.Schedule) == 0 && a.Verdict == api.Verdict{}
}

// sealed: bytes with their check behind, worked out by the library.
func sealed(body string) string {
	return string(binary.LittleEndian.AppendUint32([]byte(body), crc32.ChecksumIEEE([]byte(body))))
}

func number(n int) string { return string(binary.AppendUvarint(nil, uint64(n))) }

// bodyOf writes an artifact's bytes ahead of the check in another way than
// the program does.
func bodyOf(a api.Artifact) string {
	b := "RR\x01" + number(len(a.Program.Threads))
	for _, c := range a.Program.Threads {
		b += number(len(c))
		for _, in := range c {
			b += number(in.Op) + number(in.A) + number(in.B) + string(binary.AppendVarint(nil, int64(in.N)))
		}
	}
	rows, count := "", 0
	for s := a.Schedule; len(s) > 0; count++ {
		n := slices.IndexFunc(s, func(x int) bool { return x != s[0] })
		if n < 0 {
			n = len(s)
		}
		rows += number(s[0]) + number(n)
		s = s[n:]
	}
	return b + number(count) + rows + number(a.Verdict.Kind) + number(a.Verdict.Thread) + number(a.Verdict.At)
}

func mustEncode(t *testing.T, a api.Artifact) string {
	t.Helper()
	s, e := rerun.Encode(a)
	if e != api.OK {
		t.Fatalf("Encode(%v): error %d", a, e)
	}
	return s
}

// anySchedule has runs of many lengths; what it says need not be any thread's.
func anySchedule(d *dice, n int) []int {
	var s []int
	for len(s) < n {
		s = append(s, times(oneOf(d, 1, 1, 2, 3, 1+d.roll(200)), oneOf(d, 0, 1, 2, 3, 6, 60, 63, d.roll(64)))...)
	}
	return s[:n]
}

func anyArtifact(d *dice) api.Artifact {
	v := api.Verdict{Kind: 1 + d.roll(5), Thread: d.roll(4), At: oneOf(d, 0, 1, 127, 128, 500, d.roll(501))}
	return artifact(anyProgram(d), anySchedule(d, oneOf(d, 0, 1, 2, 5, 500, d.roll(501))), v)
}

// The bytes written out by hand, each with its check.
func TestP4BytesByHand(t *testing.T) {
	for k, c := range []struct {
		a    api.Artifact
		want []byte
	}{
		{
			artifact(program(nil), nil, verdict(api.Clean)),
			[]byte{82, 82, 1, 1, 0, 0, 3, 0, 0, 0xad, 0xef, 0xc3, 0xc2},
		},
		{
			artifact(program(code(set(1, 64), load(2, 3)), nil, code(set(0, -64), set(0, -65))), []int{0, 0, 2, 63, 63, 63, 0}, failed(3, 128)),
			[]byte{
				82, 82, 1, 3,
				2, 1, 1, 0, 128, 1, 2, 2, 3, 0,
				0,
				2, 1, 0, 0, 127, 1, 0, 0, 129, 1,
				4, 0, 2, 2, 1, 63, 3, 0, 1,
				1, 3, 128, 1,
				0x35, 0x73, 0xff, 0x3a,
			},
		},
		{
			artifact(program(code(set(0, least), set(0, greatest))), times(500, 7), wrong(500)),
			[]byte{
				82, 82, 1, 1,
				2, 1, 0, 0, 255, 255, 255, 255, 255, 255, 255, 255, 255, 1,
				1, 0, 0, 254, 255, 255, 255, 255, 255, 255, 255, 255, 1,
				1, 7, 244, 3,
				2, 0, 244, 3,
				0xe4, 0x80, 0xb1, 0xf7,
			},
		},
	} {
		s, e := rerun.Encode(c.a)
		if s != string(c.want) || e != api.OK {
			t.Errorf("P4: Encode: line %d: % x, %d, want % x", k, s, e, c.want)
		}
		a, e := rerun.Decode(string(c.want))
		if !equalArtifacts(a, c.a) || e != api.OK {
			t.Errorf("P4: Decode: line %d: %v, %d, want %v", k, a, e, c.a)
		}
	}
}

// Each number of an instruction that is written in one more byte than the one ahead of it.
func TestP4NumbersAtTheirEdges(t *testing.T) {
	list := []int{least, least + 1, greatest, greatest - 1}
	for k := range 63 {
		for _, d := range []int{-1, 0, 1} {
			list = append(list, 1<<k+d, -1<<k+d)
		}
	}
	for _, n := range list {
		a := artifact(program(code(set(3, n))), nil, verdict(api.Open))
		s := mustEncode(t, a)
		if s != sealed(bodyOf(a)) {
			t.Errorf("P4: Encode: N %d: % x, want % x", n, s, sealed(bodyOf(a)))
		}
		if b, e := rerun.Decode(s); e != api.OK || !equalArtifacts(a, b) {
			t.Errorf("P4: Decode: N %d: %v, %d", n, b, e)
		}
	}
}

func TestP4EncodeEdges(t *testing.T) {
	p, good := program(grow(), nil), api.Verdict{Kind: api.Stuck, Thread: 1, At: 2}
	bad := api.Program{}
	for k, c := range []struct {
		a    api.Artifact
		want api.Errno
	}{
		{artifact(p, times(500, 0), good), api.OK}, {artifact(p, times(501, 0), good), api.ErrArg},
		{artifact(p, repeated(250, 0, 1), good), api.OK}, {artifact(p, repeated(251, 0, 1), good), api.ErrArg},
		{artifact(p, []int{1, -1}, good), api.ErrArg}, {artifact(p, []int{0}, good), api.OK}, {artifact(p, []int{63}, good), api.OK}, {artifact(p, []int{0, 64}, good), api.ErrArg},
		{artifact(p, []int{least}, good), api.ErrArg}, {artifact(p, []int{greatest, 0}, good), api.ErrArg},
		{artifact(p, append(times(499, 1), 63), good), api.OK}, {artifact(p, append(times(499, 1), 64), good), api.ErrArg},
		{artifact(p, nil, api.Verdict{Kind: -1}), api.ErrArg}, {artifact(p, nil, api.Verdict{Kind: 0}), api.ErrArg}, {artifact(p, nil, api.Verdict{Kind: 1}), api.OK},
		{artifact(p, nil, api.Verdict{Kind: 5}), api.OK}, {artifact(p, nil, api.Verdict{Kind: 6}), api.ErrArg}, {artifact(p, nil, api.Verdict{Kind: greatest}), api.ErrArg},
		{artifact(p, nil, api.Verdict{Kind: 3, Thread: -1}), api.ErrArg}, {artifact(p, nil, api.Verdict{Kind: 3, Thread: 3}), api.OK}, {artifact(p, nil, api.Verdict{Kind: 3, Thread: 4}), api.ErrArg},
		{artifact(p, nil, api.Verdict{Kind: 1, Thread: least}), api.ErrArg}, {artifact(p, nil, api.Verdict{Kind: 1, Thread: greatest}), api.ErrArg},
		{artifact(p, nil, api.Verdict{Kind: 2, At: -1}), api.ErrArg}, {artifact(p, nil, api.Verdict{Kind: 2, At: 500}), api.OK}, {artifact(p, nil, api.Verdict{Kind: 2, At: 501}), api.ErrArg},
		{artifact(p, nil, api.Verdict{Kind: 1, At: least}), api.ErrArg}, {artifact(p, nil, api.Verdict{Kind: 1, At: greatest}), api.ErrArg},
		{artifact(bad, nil, good), api.ErrProgram}, {artifact(bad, times(501, 64), api.Verdict{Kind: 9, Thread: 9, At: -9}), api.ErrProgram},
		{artifact(program(nil, nil, nil, nil, nil), nil, good), api.ErrProgram}, {artifact(program(longThread(16, set(0, 1))), nil, good), api.OK}, {artifact(program(longThread(17, set(0, 1))), nil, good), api.ErrProgram},
		{artifact(program(grow(), code(lock(3))), nil, good), api.ErrProgram}, {artifact(program(code(jump(0, 2))), []int{64}, good), api.ErrProgram},
	} {
		s, e := rerun.Encode(c.a)
		if e != c.want || (s == "") != (e != api.OK) {
			t.Errorf("P4: Encode: line %d: %q, %d, want %d", k, s, e, c.want)
		}
		if b, f := rerun.Decode(s); e == api.OK && (f != api.OK || !equalArtifacts(b, c.a)) {
			t.Errorf("P4: Decode: line %d: %v, %d, want %v", k, b, f, c.a)
		}
	}
}

// What Encode writes Decode reads; both are held against bytes that are written in another way.
func TestP4AnyArtifact(t *testing.T) {
	d := dice(4)
	for range 3000 {
		a := anyArtifact(&d)
		s := mustEncode(t, a)
		if s != sealed(bodyOf(a)) {
			t.Fatalf("P4: Encode(%v): % x, want % x", a, s, sealed(bodyOf(a)))
		}
		if b, e := rerun.Decode(s); e != api.OK || !equalArtifacts(a, b) {
			t.Fatalf("P4: Decode(% x): %v, %d, want %v", s, b, e, a)
		}
	}
}

func refuses(t *testing.T, promise, what, s string) {
	t.Helper()
	if a, e := rerun.Decode(s); e != api.ErrBytes || !isNoArtifact(a) {
		t.Errorf("%s: Decode: %s: % x: %v, %d, want nothing and ErrBytes", promise, what, s, a, e)
	}
}

// Bytes that Encode writes for no artifact, each with a check that is right.
func TestP4RefusedBodies(t *testing.T) {
	ff := strings.Repeat("\xff", 9)
	one := "RR\x01\x01\x00" // the head, and a thread without instructions
	clean := "\x03\x00\x00"
	for _, c := range []struct{ what, body string }{
		{"nothing", ""}, {"a head alone", "RR\x01"}, {"half a head", "RR"},
		{"a head without its first byte", "R\x01\x01\x00\x00" + clean}, {"another first byte", "QR\x01\x01\x00\x00" + clean},
		{"another second byte", "Rr\x01\x01\x00\x00" + clean}, {"another third byte", "RR\x00\x01\x00\x00" + clean}, {"the third byte in two", "RR\x81\x00\x01\x00\x00" + clean},
		{"no thread", "RR\x01\x00\x00" + clean}, {"five threads", "RR\x01\x05\x00\x00\x00\x00\x00\x00" + clean}, {"threads without end", "RR\x01" + ff + "\x01" + strings.Repeat("\x00", 50)},
		{"17 instructions", "RR\x01\x01\x11" + strings.Repeat("\x01\x00\x00\x00", 17) + "\x00" + clean}, {"a thread cut", "RR\x01\x01\x02\x01\x00\x00\x00"},
		{"threads in two bytes", "RR\x01\x81\x00\x00\x00" + clean}, {"instructions in two bytes", "RR\x01\x01\x80\x00\x00" + clean}, {"Op in two bytes", "RR\x01\x01\x01\x81\x00\x00\x00\x00\x00" + clean},
		{"A in two bytes", "RR\x01\x01\x01\x01\x80\x00\x00\x00\x00" + clean}, {"B in three bytes", "RR\x01\x01\x01\x01\x00\x80\x80\x00\x00\x00" + clean}, {"N in two bytes", "RR\x01\x01\x01\x01\x00\x00\x82\x00\x00" + clean},
		{"N in eleven bytes", "RR\x01\x01\x01\x01\x00\x00" + ff + "\x81\x00\x00" + clean}, {"N above 64 bits", "RR\x01\x01\x01\x01\x00\x00" + ff + "\x02\x00" + clean}, {"N of 70 bits", "RR\x01\x01\x01\x01\x00\x00" + ff + "\x7f\x00" + clean},
		{"N of 71 bits", "RR\x01\x01\x01\x01\x00\x00" + strings.Repeat("\x80", 10) + "\x01\x00" + clean}, {"N of twelve noughts", "RR\x01\x01\x01\x01\x00\x00" + strings.Repeat("\x80", 12) + "\x00\x00" + clean},
		{"Op 0", "RR\x01\x01\x01\x00\x00\x00\x00\x00" + clean}, {"Op 12", "RR\x01\x01\x01\x0c\x00\x00\x00\x00" + clean}, {"Op of 64 bits", "RR\x01\x01\x01" + ff + "\x01\x00\x00\x00\x00" + clean},
		{"a register 4", "RR\x01\x01\x01\x01\x04\x00\x00\x00" + clean}, {"A of 64 bits", "RR\x01\x01\x01\x01" + ff + "\x01\x00\x00\x00" + clean}, {"B beside Set", "RR\x01\x01\x01\x01\x00\x01\x00\x00" + clean},
		{"B of 64 bits", "RR\x01\x01\x01\x02\x00" + ff + "\x01\x00\x00" + clean}, {"N beside Load", "RR\x01\x01\x01\x02\x00\x00\x02\x00" + clean}, {"a lock 3", "RR\x01\x01\x01\x09\x03\x00\x00\x00" + clean},
		{"a Jump too far", "RR\x01\x01\x01\x08\x00\x00\x04\x00" + clean}, {"a Jump to -1", "RR\x01\x01\x01\x08\x00\x00\x01\x00" + clean},
		{"a run of 0 times", one + "\x01\x00\x00" + clean}, {"a run of 0 times in two bytes", one + "\x01\x00\x80\x00" + clean}, {"a run of 0 times behind another", one + "\x02\x00\x01\x01\x00" + clean}, {"two runs of one thread", one + "\x02\x00\x01\x00\x01" + clean},
		{"two runs of one thread behind another", one + "\x03\x01\x01\x00\x02\x00\x03" + clean}, {"a thread 64", one + "\x01\x40\x01" + clean}, {"a thread of 64 bits", one + "\x01" + ff + "\x01\x01" + clean},
		{"a run of 501", one + "\x01\x00\xf5\x03" + clean}, {"runs of 501", one + "\x02\x00\xfa\x01\x01\xfb\x01" + clean}, {"501 runs", one + "\xf5\x03" + strings.Repeat("\x00\x01\x01\x01", 250) + "\x00\x01" + clean},
		{"a run of 2^63 times", one + "\x01\x00" + strings.Repeat("\x80", 9) + "\x01" + clean}, {"a run of 2^64 - 1 times", one + "\x01\x00" + ff + "\x01" + clean}, {"runs whose sum wraps round", one + "\x02\x00\x01\x01" + ff + "\x01" + clean},
		{"a run behind 500", one + "\x02\x00\xf4\x03\x01\x01" + clean}, {"2^63 runs", one + strings.Repeat("\x80", 9) + "\x01" + clean},
		{"runs in two bytes", one + "\x80\x00" + clean}, {"a run's thread in two bytes", one + "\x01\x80\x00\x01" + clean}, {"a run's count in two bytes", one + "\x01\x00\x81\x00" + clean},
		{"one run too few", one + "\x00\x00\x01" + clean}, {"one run too many", one + "\x02\x00\x01" + clean},
		{"Kind 0", one + "\x00\x00\x00\x00"}, {"Kind 6", one + "\x00\x06\x00\x00"}, {"Kind of 64 bits", one + "\x00" + ff + "\x01\x00\x00"}, {"Kind in two bytes", one + "\x00\x83\x00\x00\x00"},
		{"Thread 4", one + "\x00\x03\x04\x00"}, {"Thread of 64 bits", one + "\x00\x03" + ff + "\x01\x00"}, {"Thread in two bytes", one + "\x00\x03\x80\x00\x00"},
		{"At 501", one + "\x00\x03\x00\xf5\x03"}, {"At of 64 bits", one + "\x00\x03\x00" + ff + "\x01"}, {"At in two bytes", one + "\x00\x03\x00\x80\x00"},
		{"no At", one + "\x00\x03\x00"}, {"no verdict", one + "\x00"}, {"no schedule", one}, {"a byte more", one + "\x00" + clean + "\x00"},
	} {
		refuses(t, "P4", c.what, sealed(c.body))
		refuses(t, "P4", c.what+", without a check", c.body)
	}
	refuses(t, "P4", "two checks", sealed(sealed(one+"\x00"+clean)))
	if _, e := rerun.Decode(sealed(one + "\x00" + clean)); e != api.OK {
		t.Errorf("P4: Decode: the bytes that all these were made of: %d", e)
	}
}

func TestP4RefusedChecks(t *testing.T) {
	body := bodyOf(artifact(program(grow(), grow()), []int{0, 0, 1}, verdict(api.Open)))
	c := crc32.ChecksumIEEE([]byte(body))
	if _, e := rerun.Decode(string(binary.LittleEndian.AppendUint32([]byte(body), c))); e != api.OK {
		t.Fatalf("P4: Decode: the right check: %d", e)
	}
	for _, n := range []uint32{0, ^uint32(0), ^c, c + 1, c - 1, c + 1<<24, c ^ 1<<31, c ^ 1<<16} {
		refuses(t, "P4", "a wrong check", string(binary.LittleEndian.AppendUint32([]byte(body), n)))
	}
	refuses(t, "P4", "the check with its highest byte first", string(binary.BigEndian.AppendUint32([]byte(body), c)))
}

// A check that ends with noughts is cut like any other one.
func TestP4NoughtsOfACheckAreNeeded(t *testing.T) {
	found := 0
	for n := 0; found < 5; n++ {
		s := mustEncode(t, artifact(program(code(set(0, n))), nil, verdict(api.Clean)))
		if s[len(s)-1] == 0 {
			found++
			refuses(t, "P4", "a check without its last byte", s[:len(s)-1])
			refuses(t, "P4", "a check with a byte more", s+"\x00")
		}
	}
}

// What Decode reads, be it made of any bytes, Encode writes again as it was:
// so it reads nothing that Encode does not write.
func TestP4DecodeReadsOnlyWhatEncodeWrites(t *testing.T) {
	d := dice(44)
	read, refused := 0, 0
	for range 60000 {
		b := []byte(bodyOf(anySmallArtifact(&d)))
		for range 1 + d.roll(3) {
			b = damage(&d, b)
		}
		s := sealed(string(b))
		a, e := rerun.Decode(s)
		switch e {
		case api.OK:
			read++
			if again, f := rerun.Encode(a); f != api.OK || again != s {
				t.Fatalf("P4: Decode(% x): %v, but Encode of that: % x, %d", s, a, again, f)
			}
		case api.ErrBytes:
			refused++
			if !isNoArtifact(a) {
				t.Fatalf("P1: Decode(% x): %v beside the error", s, a)
			}
		default:
			t.Fatalf("P4: Decode(% x): %d", s, e)
		}
	}
	if read < 1000 || refused < 1000 {
		t.Errorf("too few of some: %d read, %d refused", read, refused)
	}
}

func anySmallArtifact(d *dice) api.Artifact {
	var c []api.Ins
	length := d.roll(3)
	for range length {
		c = append(c, anyIns(d, length))
	}
	return artifact(program(c, nil), anySchedule(d, d.roll(6)), api.Verdict{Kind: 1 + d.roll(5), Thread: d.roll(4), At: d.roll(501)})
}

// damage changes a byte behind the head, leaves it out, or puts one in.
func damage(d *dice, b []byte) []byte {
	i := min(3, len(b)-1) + d.roll(max(1, len(b)-3))
	n := byte(oneOf(d, 0, 1, 2, 3, 4, 5, 6, 127, 128, 129, 255, d.roll(256)))
	switch d.roll(4) {
	case 0:
		return slices.Delete(b, i, i+1)
	case 1:
		return slices.Insert(b, i, n)
	}
	b[i] = n
	return b
}

func bytesCases(t *testing.T) []string {
	d := dice(9)
	list := []string{
		mustEncode(t, artifact(program(nil), nil, verdict(api.Clean))),
		mustEncode(t, artifact(program(grow(), grow()), []int{0, 1, 0, 0, 0, 1, 1, 1}, verdict(api.Clean))),
		mustEncode(t, artifact(program(code(set(0, least))), times(500, 0), wrong(1))),
	}
	for range 20 {
		list = append(list, mustEncode(t, anySmallArtifact(&d)))
	}
	return list
}

// turned is s with the bits of the pattern turned, from that bit on; "" if a bit is behind its end.
func turned(s string, bit int, pattern uint32) string {
	b := []byte(s)
	for i := range 32 {
		if pattern>>i&1 == 0 {
			continue
		}
		if (bit+i)/8 >= len(b) {
			return ""
		}
		b[(bit+i)/8] ^= 1 << ((bit + i) % 8)
	}
	return string(b)
}

func TestP9TurnedBitsAreRefused(t *testing.T) {
	d := dice(99)
	for _, s := range bytesCases(t) {
		for bit := range 8 * len(s) {
			patterns := []uint32{1, 3, 5, 0x81, 0x101, 0x80000001, 0xffffffff, 0xff, 0xff00ff, 0xedb88320 | 1, 0xdb710641}
			for range 20 {
				patterns = append(patterns, uint32(d.roll(1<<31))<<1|1, 1<<d.roll(32)|1<<d.roll(32))
			}
			for _, x := range patterns {
				if other := turned(s, bit, x); other != "" && other != s {
					refuses(t, "P9", "other bits", other)
				}
			}
		}
	}
}

// Each two bits of some bytes that are within 32.
func TestP9TwoTurnedBitsAreRefused(t *testing.T) {
	for _, s := range bytesCases(t)[:3] {
		for bit := range 8 * len(s) {
			for i := 1; i < 32; i++ {
				if other := turned(s, bit, 1|1<<i); other != "" {
					refuses(t, "P9", "two other bits", other)
				}
			}
		}
	}
}

func TestP9LongerAndShorterAreRefused(t *testing.T) {
	for k, s := range bytesCases(t) {
		body := s[:len(s)-4]
		for n := range len(s) {
			refuses(t, "P9", "cut", s[:n])
			refuses(t, "P9", "cut at the front", s[n+1:])
			refuses(t, "P9", "a byte left out", s[:n]+s[n+1:])
		}
		for n := range len(body) {
			refuses(t, "P9", "cut, with a check", sealed(body[:n]))
		}
		for b := range 256 {
			refuses(t, "P9", "a byte more", s+string([]byte{byte(b)}))
			refuses(t, "P9", "a byte ahead", string([]byte{byte(b)})+s)
			refuses(t, "P9", "a byte more ahead of the check", sealed(body+string([]byte{byte(b)})))
		}
		refuses(t, "P9", "twice", s+s)
		refuses(t, "P9", "with others behind", s+bytesCases(t)[(k+1)%3])
		refuses(t, "P9", "with noughts behind", s+strings.Repeat("\x00", 1000))
	}
}

// An artifact has one row of bytes: equal ones the same, others others.
func TestP9OneRowOfBytes(t *testing.T) {
	d := dice(90)
	rows := map[string]api.Artifact{}
	for range 3000 {
		a := anySmallArtifact(&d)
		s := mustEncode(t, a)
		if b, seen := rows[s]; seen && !equalArtifacts(a, b) {
			t.Fatalf("P9: %v and %v have the bytes % x", a, b, s)
		}
		rows[s] = a
		roomy := artifact(roomyProgram(a.Program), roomySchedule(a.Schedule), a.Verdict)
		if again := mustEncode(t, roomy); again != s {
			t.Fatalf("P9: %v: % x with spare room, % x without", a, again, s)
		}
	}
	empty := artifact(program(code(), nil), []int{}, verdict(api.Open))
	if mustEncode(t, empty) != mustEncode(t, artifact(program(nil, code()), nil, verdict(api.Open))) {
		t.Errorf("P9: a list that is nil and one that is empty have other bytes")
	}
}
