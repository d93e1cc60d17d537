package event

import (
	"encoding/binary"
	"math"
	"math/big"
	"slices"
	"strings"
	"testing"

	"blackbox/api"
)

const (
	mostTick = 1099511627776
	mostArg  = 4294967295
	mostSeq  = 18446744073709551615
)

// example is the event of the chapter's first example.
func example() api.Event { return api.Event{Seq: 300, Tick: 5, Part: -1, Kind: 2, A: 1, B: 0} }

// greatest is the right event whose numbers are all at their upper ends.
func greatest() api.Event {
	return api.Event{Seq: mostSeq, Tick: mostTick, Part: 31, Kind: 8, A: mostArg, B: mostArg}
}

// bytes is a text of these bytes.
func bytes(l ...byte) string { return string(l) }

// number is what P3.1 says of Put, by the library.
func number(n uint64) string { return string(binary.AppendUvarint(nil, n)) }

// told is a kind's byte and five numbers, whatever they are.
func told(kind byte, seq, tick, part, a, b uint64) string {
	return bytes(kind) + number(seq) + number(tick) + number(part) + number(a) + number(b)
}

// plainPut is P4.2 of a right event.
func plainPut(x api.Event) string {
	return told(byte(x.Kind), x.Seq, uint64(x.Tick), uint64(x.Part+1), uint64(x.A), uint64(x.B))
}

// plainTake is what P3.1 says of Take, in numbers without bounds.
func plainTake(s string) (*big.Int, string, api.Errno) {
	last := strings.IndexFunc(s[:min(10, len(s))], func(r rune) bool { return r < 128 })
	if last < 0 && len(s) < 10 {
		return nil, "", api.ErrMore
	}
	if last < 0 {
		return nil, "", api.ErrRange
	}
	n := new(big.Int)
	for i := last; i >= 0; i-- {
		n.Add(n.Lsh(n, 7), big.NewInt(int64(s[i]&127)))
	}
	if !n.IsUint64() {
		return nil, "", api.ErrRange
	}
	if last > 0 && s[last] == 0 {
		return nil, "", api.ErrForm
	}
	return n, s[last+1:], api.OK
}

// isIn tells whether n is at least low and at most high, in numbers without bounds.
func isIn(n *big.Int, low, high int64) bool {
	return n.Cmp(big.NewInt(low)) >= 0 && n.Cmp(big.NewInt(high)) <= 0
}

// plainGet is P4.3, in numbers without bounds.
func plainGet(s string) (api.Event, api.Errno) {
	if len(s) == 0 {
		return api.Event{}, api.ErrMore
	}
	rest := s[1:]
	var l []*big.Int
	for len(l) < 5 {
		n, left, e := plainTake(rest)
		if e != api.OK {
			return api.Event{}, e
		}
		l, rest = append(l, n), left
	}
	part := new(big.Int).Sub(l[2], big.NewInt(1))
	right := s[0] >= 1 && s[0] <= 8 && isIn(l[1], 0, mostTick) && isIn(part, -1, 31) && isIn(l[3], 0, mostArg) && isIn(l[4], 0, mostArg)
	if !right || rest != "" {
		return api.Event{}, api.ErrForm
	}
	return api.Event{Seq: l[0].Uint64(), Tick: int(l[1].Int64()), Part: int(part.Int64()), Kind: int(s[0]), A: int(l[3].Int64()), B: int(l[4].Int64())}, api.OK
}

// edges are the ends between which a field that is an int is right, and how it is set.
type edges struct {
	name      string
	low, high int
	set       func(x *api.Event, n int)
}

func fields() []edges {
	return []edges{
		{"Kind", 1, 8, func(x *api.Event, n int) { x.Kind = n }},
		{"Tick", 0, mostTick, func(x *api.Event, n int) { x.Tick = n }},
		{"Part", -1, 31, func(x *api.Event, n int) { x.Part = n }},
		{"A", 0, mostArg, func(x *api.Event, n int) { x.A = n }},
		{"B", 0, mostArg, func(x *api.Event, n int) { x.B = n }},
	}
}

// rightNumbers are some between the ends, and both of these.
func (f edges) rightNumbers() []int {
	l := []int{f.low, f.low + 1, f.high - 1, f.high, (f.low + f.high) / 2}
	for k := range 63 {
		for _, n := range []int{1<<k - 1, 1 << k, 1<<k + 1} {
			if n > f.low && n < f.high {
				l = append(l, n)
			}
		}
	}
	return l
}

// wrongNumbers are one beyond each end, far ones, and those that would be right with fewer bits.
func (f edges) wrongNumbers() []int {
	l := []int{f.low - 1, f.low - 2, f.high + 1, f.high + 2, math.MinInt, math.MinInt + 1, math.MaxInt, math.MaxInt - 1}
	for k := range 63 {
		for _, n := range []int{1 << k, 1<<k + f.low, 1<<k + f.high, -1 << k, -1<<k + f.low, -1<<k + f.high, -1<<k - 1} {
			if n < f.low || n > f.high {
				l = append(l, n)
			}
		}
	}
	return l
}

// someSeqs are numbers at both ends, and about each power of two.
func someSeqs() []uint64 {
	l := []uint64{0, 300, mostSeq, mostSeq - 1}
	for k := range 64 {
		l = append(l, 1<<k-1, 1<<k, 1<<k+1)
	}
	return l
}

// rightEvents are those with one field at each of its right numbers, and with all of them at either end.
func rightEvents() []api.Event {
	least := api.Event{Part: -1, Kind: 1}
	l := []api.Event{least, example(), greatest()}
	for _, from := range []api.Event{least, example(), greatest()} {
		for _, seq := range someSeqs() {
			x := from
			x.Seq = seq
			l = append(l, x)
		}
		for _, f := range fields() {
			for _, n := range f.rightNumbers() {
				x := from
				f.set(&x, n)
				l = append(l, x)
			}
		}
	}
	for mask := range 32 {
		x := api.Event{Seq: uint64(mask)}
		for i, f := range fields() {
			f.set(&x, []int{f.low, f.high}[mask>>i&1])
		}
		l = append(l, x)
	}
	return l
}

// wrongEvents are those with one field that is wrong, and with several.
func wrongEvents() []api.Event {
	l := []api.Event{{}, {Part: -1}, {Seq: mostSeq, Part: -2, Kind: 9, Tick: -1, A: -1, B: -1}}
	for _, from := range []api.Event{{Part: -1, Kind: 1}, example(), greatest()} {
		for _, f := range fields() {
			for _, n := range f.wrongNumbers() {
				x := from
				f.set(&x, n)
				l = append(l, x)
			}
		}
	}
	return l
}

// got tells of a text of which Get does not answer what it should.
func got(t *testing.T, s string, x api.Event, e api.Errno) {
	t.Helper()
	if a, b := Get(s); a != x || b != e {
		t.Errorf("Get(%q): %v, error %d, not %v, error %d", s, a, b, x, e)
	}
}

// refused tells of a text that Get does not refuse with e and nothing else.
func refused(t *testing.T, s string, e api.Errno) {
	t.Helper()
	got(t, s, api.Event{}, e)
}

// P4.1: each field at both of its ends, and between.
func TestIsRight(t *testing.T) {
	for _, x := range rightEvents() {
		if !Is(x) {
			t.Errorf("%v is not right", x)
		}
	}
}

// P4.1: each field one beyond its ends, and far from them.
func TestIsWrong(t *testing.T) {
	for _, x := range wrongEvents() {
		if Is(x) {
			t.Errorf("%v is right", x)
		}
	}
}

// P4.1: all eight kinds' names.
func TestName(t *testing.T) {
	for i, want := range []string{"boot", "switch", "call", "move", "fault", "action", "gap", "halt"} {
		if s := Name(i + 1); s != want {
			t.Errorf("Name(%d): %q, not %q", i+1, s, want)
		}
	}
	for _, x := range []struct {
		kind int
		want string
	}{
		{api.EvBoot, "boot"}, {api.EvSwitch, "switch"}, {api.EvCall, "call"}, {api.EvMove, "move"},
		{api.EvFault, "fault"}, {api.EvAction, "action"}, {api.EvGap, "gap"}, {api.EvHalt, "halt"},
	} {
		if s := Name(x.kind); s != x.want {
			t.Errorf("Name(%d): %q, not %q", x.kind, s, x.want)
		}
	}
}

// P4.1: no name of what is no kind.
func TestNoName(t *testing.T) {
	for _, kind := range fields()[0].wrongNumbers() {
		if s := Name(kind); s != "" {
			t.Errorf("Name(%d): %q", kind, s)
		}
	}
	for kind := -300; kind < 600; kind++ {
		if s := Name(kind); s != "" && (kind < 1 || kind > 8) {
			t.Errorf("Name(%d): %q", kind, s)
		}
	}
}

// P4.2: the chapter's example, and events whose bytes were laid by hand.
func TestPutKnown(t *testing.T) {
	for _, x := range []struct {
		x    api.Event
		want string
	}{
		{example(), bytes(2, 172, 2, 5, 0, 1, 0)},
		{api.Event{Part: -1, Kind: 1}, bytes(1, 0, 0, 0, 0, 0)},
		{api.Event{Seq: 1, Tick: 2, Part: 3, Kind: 4, A: 5, B: 6}, bytes(4, 1, 2, 4, 5, 6)},
		{api.Event{Seq: 128, Tick: 129, Part: 31, Kind: 8, A: 130, B: 131}, bytes(8, 128, 1, 129, 1, 32, 130, 1, 131, 1)},
		{greatest(), bytes(8, 255, 255, 255, 255, 255, 255, 255, 255, 255, 1, 128, 128, 128, 128, 128, 32, 32, 255, 255, 255, 255, 15, 255, 255, 255, 255, 15)},
	} {
		if s, e := Put(x.x); s != x.want || e != api.OK {
			t.Errorf("Put(%v): %q, error %d, not %q", x.x, s, e, x.want)
		}
		got(t, x.want, x.x, api.OK)
	}
}

// P4.2: each field at its ends and between, against the words of the promise.
func TestPut(t *testing.T) {
	for _, x := range rightEvents() {
		if s, e := Put(x); s != plainPut(x) || e != api.OK {
			t.Errorf("Put(%v): %q, error %d, not %q", x, s, e, plainPut(x))
		}
	}
}

// P4.2: what is not right is not put.
func TestPutWrong(t *testing.T) {
	for _, x := range wrongEvents() {
		if s, e := Put(x); s != "" || e != api.ErrArg {
			t.Errorf("Put(%v): %q, error %d", x, s, e)
		}
	}
}

// P4.3: no bytes, and a kind alone, be it one or none.
func TestGetLittle(t *testing.T) {
	refused(t, "", api.ErrMore)
	for kind := range 256 {
		refused(t, bytes(byte(kind)), api.ErrMore)
	}
	refused(t, bytes(2, 1, 1, 0, 0), api.ErrMore)
}

// P4.3: each number that is cut short, or is not there.
func TestGetCutShort(t *testing.T) {
	for _, x := range rightEvents() {
		s := plainPut(x)
		for i := range len(s) {
			refused(t, s[:i], api.ErrMore)
		}
	}
}

// wrongNumber is a number's bytes that are refused by e.
type wrongNumber struct {
	s string
	e api.Errno
}

func wrongTexts() []wrongNumber {
	return []wrongNumber{
		{bytes(128, 0), api.ErrForm},
		{bytes(133, 0), api.ErrForm},
		{strings.Repeat("\xff", 9) + "\x00", api.ErrForm},
		{strings.Repeat("\xff", 9) + "\x02", api.ErrRange},
		{strings.Repeat("\x80", 10), api.ErrRange},
		{strings.Repeat("\x80", 9) + "\x80\x01", api.ErrRange},
	}
}

// P4.3: Take's error of each of the five numbers, with right ones ahead.
func TestGetNumberWrong(t *testing.T) {
	for at := range 5 {
		for _, w := range wrongTexts() {
			front, behind := bytes(2)+strings.Repeat("\x01", at), strings.Repeat("\x01", 4-at)
			refused(t, front+w.s+behind, w.e)
			refused(t, front+w.s+behind+"\x01", w.e)
			refused(t, front+w.s, w.e)
		}
	}
}

// P4.3: the first error of a number is told, whatever stands behind it.
func TestGetFirstError(t *testing.T) {
	for at := range 5 {
		for _, w := range wrongTexts() {
			front := bytes(2) + strings.Repeat("\x01", at) + w.s
			for _, v := range wrongTexts() {
				for n := range 4 - at {
					refused(t, front+strings.Repeat("\x01", n)+v.s, w.e)
				}
			}
			refused(t, front+"\x80", w.e)
			refused(t, front+strings.Repeat("\x01", 4-at)+"left", w.e)
		}
	}
}

// P4.3: an error of a number is told ahead of a kind, or a number ahead, that is not right.
func TestGetErrorsAheadOfForm(t *testing.T) {
	for _, kind := range []byte{0, 9, 255} {
		refused(t, bytes(kind, 1, 1, 1, 1), api.ErrMore)
		refused(t, bytes(kind, 1, 1, 1, 1, 128), api.ErrMore)
		refused(t, bytes(kind, 1, 1, 1, 1)+strings.Repeat("\xff", 10), api.ErrRange)
	}
	for _, great := range []uint64{mostTick + 1, 1 << 63, mostSeq} {
		refused(t, bytes(2, 1)+number(great), api.ErrMore)
		refused(t, bytes(2, 1)+number(great)+bytes(1, 1), api.ErrMore)
		refused(t, bytes(2, 1)+number(great)+bytes(1, 1, 255), api.ErrMore)
		refused(t, bytes(2, 1)+number(great)+bytes(1, 1)+strings.Repeat("\xff", 10), api.ErrRange)
		refused(t, bytes(2, 1, 1)+number(great)+bytes(1), api.ErrMore)
		refused(t, bytes(2, 1, 1, 1)+number(great), api.ErrMore)
		refused(t, bytes(2, 1, 1, 1)+number(great)+strings.Repeat("\x80", 10), api.ErrRange)
	}
}

// P4.3: bytes that are left behind an event.
func TestGetLeft(t *testing.T) {
	for _, x := range rightEvents() {
		for _, left := range []string{"\x00", "\x01", "\x80", "\xff", "left", plainPut(x)} {
			refused(t, plainPut(x)+left, api.ErrForm)
		}
	}
	for _, kind := range []byte{0, 9, 255} {
		refused(t, bytes(kind, 1, 1, 1, 1, 1, 0), api.ErrForm)
	}
}

// P4.3: of all first bytes those of the kinds alone are right.
func TestGetKinds(t *testing.T) {
	for kind := range 256 {
		s := bytes(byte(kind), 1, 2, 3, 4, 5)
		if kind >= 1 && kind <= 8 {
			got(t, s, api.Event{Seq: 1, Tick: 2, Part: 2, Kind: kind, A: 4, B: 5}, api.OK)
		} else {
			refused(t, s, api.ErrForm)
		}
	}
}

// greatNumbers are above high: one more, and such that have right lower bits.
func greatNumbers(high uint64) []uint64 {
	l := []uint64{high + 1, high + 2, mostTick + 1, mostTick + 2, 1 << 63, 1<<63 - 1, 1<<63 + 1, mostSeq, mostSeq - 1}
	for k := range 64 {
		for _, low := range []uint64{0, 1, high / 2, high} {
			if n := uint64(1)<<k | low; n > high {
				l = append(l, n)
			}
			if n := uint64(mostSeq)<<k | low; n > high {
				l = append(l, n)
			}
		}
	}
	return l
}

// P4.3: numbers above what is right, whatever int they would be; Seq may be any.
func TestGetGreat(t *testing.T) {
	for _, n := range greatNumbers(mostTick) {
		refused(t, told(2, 1, n, 1, 1, 1), api.ErrForm)
		got(t, told(2, n, 1, 1, 1, 1), api.Event{Seq: n, Tick: 1, Part: 0, Kind: 2, A: 1, B: 1}, api.OK)
	}
	for _, n := range greatNumbers(32) {
		refused(t, told(2, 1, 1, n, 1, 1), api.ErrForm)
	}
	for _, n := range greatNumbers(mostArg) {
		refused(t, told(2, 1, 1, 1, n, 1), api.ErrForm)
		refused(t, told(2, 1, 1, 1, 1, n), api.ErrForm)
	}
}

// P4.3: texts of few signs, all of them, and texts with a byte that was changed, against the words of the promise.
func TestGet(t *testing.T) {
	same := func(s string) {
		x, e := plainGet(s)
		got(t, s, x, e)
	}
	signs := bytes(0, 1, 2, 32, 33, 127, 128, 255)
	all := []string{""}
	for range 6 {
		var longer []string
		for _, s := range all {
			for i := range len(signs) {
				longer = append(longer, s+signs[i:i+1])
			}
		}
		for _, s := range longer {
			same(s)
		}
		all = longer
	}
	for _, x := range []api.Event{example(), greatest(), {Seq: 1 << 40, Tick: 1 << 20, Part: 7, Kind: 3, A: 1 << 31, B: 1 << 14}} {
		s := plainPut(x)
		for i := range len(s) {
			for c := range 256 {
				same(s[:i] + bytes(byte(c)) + s[i+1:])
				same(s[:i] + bytes(byte(c)) + s[i:])
			}
			same(s[:i] + s[i+1:])
		}
	}
}

// row is n right events, the first one of the number seq, each with one more than that ahead, as numbers of 64 bits.
func row(seq uint64, n int) []api.Event {
	var l []api.Event
	for i := range n {
		l = append(l, api.Event{Seq: seq + uint64(i), Tick: i, Part: i%33 - 1, Kind: i%8 + 1, A: i, B: i})
	}
	return l
}

// run tells of a list of which Run does not answer what it should, or that it changed.
func run(t *testing.T, l []api.Event, want bool) {
	t.Helper()
	was := slices.Clone(l)
	if is := Run(l); is != want {
		t.Errorf("Run of %d events, the first ones %v: %v", len(l), l[:min(3, len(l))], is)
	}
	if !slices.Equal(l, was) {
		t.Errorf("Run changed the list")
	}
}

// P4.4: rows that run on, of none, one and more events.
func TestRun(t *testing.T) {
	run(t, nil, true)
	run(t, []api.Event{}, true)
	for _, seq := range []uint64{0, 1, 300, 1<<32 - 5, 1<<63 - 5, mostSeq - 20} {
		for n := range 20 {
			run(t, row(seq, n), true)
		}
		run(t, make([]api.Event, 0, 9), true)
	}
	run(t, row(7, 3000), true)
	for _, x := range rightEvents() {
		run(t, []api.Event{x}, true)
	}
}

// P4.4: a row may run on up to the greatest number, and 0 does not go on from it.
func TestRunGreatest(t *testing.T) {
	for n := 1; n < 10; n++ {
		run(t, row(mostSeq-uint64(n)+1, n), true)
		for more := 1; more < 4; more++ {
			run(t, row(mostSeq-uint64(n)+1, n+more), false)
		}
	}
	run(t, append(row(mostSeq, 1), row(0, 1)...), false)
	run(t, append(row(mostSeq, 1), row(mostSeq, 1)...), false)
	run(t, append(row(mostSeq, 1), row(1, 1)...), false)
}

// P4.4: numbers that stay, go back, or leave one out, at each place of a row.
func TestRunApart(t *testing.T) {
	for _, seq := range []uint64{0, 5, 1 << 40, mostSeq - 20} {
		for at := 1; at < 8; at++ {
			for _, by := range []uint64{1, 2, 8, 1 << 32, 1 << 63, mostSeq, mostSeq - 1} {
				l := row(seq, 8)
				l[at].Seq += by
				run(t, l, false)
				run(t, append(row(seq, at), row(seq+uint64(at)+by, 8-at)...), false)
			}
			run(t, append(row(seq, at), row(0, 3)...), false)
		}
		l := row(seq, 8)
		slices.Reverse(l)
		run(t, l, false)
	}
	run(t, append(row(0, 1), row(0, 1)...), false)
}

// P4.4: a row with an event that is not right, at each place.
func TestRunWrong(t *testing.T) {
	for _, x := range wrongEvents() {
		run(t, []api.Event{x}, false)
		for at := range 4 {
			l := row(9, 4)
			x.Seq = l[at].Seq
			l[at] = x
			run(t, l, false)
		}
	}
}

// P4.4: what stands behind a list in its memory is not asked.
func TestRunPiece(t *testing.T) {
	l := append(row(4, 3), row(90, 3)...)
	run(t, l, false)
	run(t, l[:3], true)
	run(t, l[3:], true)
	run(t, l[2:4], false)
	run(t, l[:0], true)
}

// P4.5: what is put is got again.
func TestPutIsGot(t *testing.T) {
	for _, x := range rightEvents() {
		s, e := Put(x)
		if e != api.OK {
			t.Errorf("Put(%v): error %d", x, e)
		}
		got(t, s, x, api.OK)
	}
}

// P4.5: what is got is what would be put.
func TestGotIsPut(t *testing.T) {
	many := 0
	same := func(s string) {
		x, e := Get(s)
		if e != api.OK {
			return
		}
		many++
		if again, e := Put(x); again != s || e != api.OK {
			t.Errorf("Get(%q): %v, that is %q, error %d", s, x, again, e)
		}
	}
	for _, x := range rightEvents() {
		s := plainPut(x)
		same(s)
		for i := range len(s) {
			for _, c := range []byte{0, 1, 8, 32, 127, 128, 129, 255} {
				same(s[:i] + bytes(c) + s[i+1:])
				same(s[:i] + bytes(c) + s[i:])
			}
		}
	}
	if many < 1000 {
		t.Errorf("%d texts alone were got", many)
	}
}

// P4.5: no event's bytes are longer than 30.
func TestLengths(t *testing.T) {
	for _, x := range rightEvents() {
		if s, _ := Put(x); len(s) < 6 || len(s) > 30 {
			t.Errorf("Put(%v): %d bytes", x, len(s))
		}
	}
	if s, e := Put(greatest()); len(s) != 28 || e != api.OK {
		t.Errorf("the greatest event: %d bytes, error %d", len(s), e)
	}
}

// P4.5: of events that differ the bytes do, and none are the beginning of another one's.
func TestBytesDiffer(t *testing.T) {
	of := map[string]api.Event{}
	for _, x := range rightEvents() {
		s, _ := Put(x)
		if y, is := of[s]; is && y != x {
			t.Errorf("%v and %v: both %q", x, y, s)
		}
		of[s] = x
	}
	for s, x := range of {
		for i := range len(s) {
			if y, is := of[s[:i]]; is {
				t.Errorf("the bytes of %v are the beginning of those of %v", y, x)
			}
		}
	}
}

// R2: what is answered hangs on the arguments alone, whatever was asked between.
func TestAgain(t *testing.T) {
	s, _ := Put(example())
	Put(api.Event{})
	Get("\x09")
	Get(bytes(8, 128))
	if again, e := Put(example()); again != s || e != api.OK {
		t.Errorf("%q, then %q, error %d", s, again, e)
	}
	got(t, s, example(), api.OK)
}
