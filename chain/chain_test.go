package chain

import (
	"crypto/sha256"
	"encoding/binary"
	"encoding/hex"
	"hash/crc32"
	"math/big"
	"slices"
	"strings"
	"testing"

	"blackbox/api"
	"blackbox/batch"
)

const mostSeq = 18446744073709551615

// number is what P3.1 says of Put, by the library.
func number(n uint64) string { return string(binary.AppendUvarint(nil, n)) }

// four is what P3.3 says of Fixed, of width 4, by the library.
func four(n uint32) string { return string(binary.BigEndian.AppendUint32(nil, n)) }

// eventBytes is what P4.2 says of Put, of a right event.
func eventBytes(x api.Event) string {
	return string([]byte{byte(x.Kind)}) + number(x.Seq) + number(uint64(x.Tick)) + number(uint64(x.Part+1)) + number(uint64(x.A)) + number(uint64(x.B))
}

// framed is a body with what P5.1 says stands about it, whatever it is.
func framed(body string) string {
	s := "B" + four(uint32(len(body))) + body
	return s + four(crc32.ChecksumIEEE([]byte(s)))
}

// bytesOf is what P5.1 says of Put, of a right batch.
func bytesOf(b api.Batch) string {
	body := string(b.Prev[:]) + number(b.First) + number(uint64(len(b.Events)))
	for _, x := range b.Events {
		s := eventBytes(x)
		body += number(uint64(len(s))) + s
	}
	return framed(body)
}

// sumOf is a text's sum, by the library.
func sumOf(s string) api.Digest { return sha256.Sum256([]byte(s)) }

// digestOf is 32 bytes that differ, from c on.
func digestOf(c byte) api.Digest {
	var d api.Digest
	for i := range d {
		d[i] = c + byte(i)*7
	}
	return d
}

// eventsOf is n events that are right, the first one of the number first, each of one more than that ahead, as numbers of 64 bits; those of another first or mark differ.
func eventsOf(first uint64, n, mark int) []api.Event {
	var l []api.Event
	for i := range n {
		l = append(l, api.Event{Seq: first + uint64(i), Tick: i*i + mark, Part: (i+mark)%33 - 1, Kind: (i+mark)%8 + 1, A: i * 77, B: 300 - i%300})
	}
	return l
}

// row is batches' texts that are linked, one behind the other, and what is told of them.
type row struct {
	anchor  api.Digest
	first   uint64
	batches []api.Batch
	texts   []string
	events  []api.Event
	// sum is the last text's, next the number behind the last event's.
	sum  api.Digest
	next uint64
}

// with is the row with one batch more, of n events.
func (r row) with(n, mark int) row {
	b := api.Batch{First: r.next, Events: eventsOf(r.next, n, mark), Prev: r.sum}
	s := bytesOf(b)
	r.batches = append(slices.Clip(r.batches), b)
	r.texts = append(slices.Clip(r.texts), s)
	r.events = append(slices.Clip(r.events), b.Events...)
	r.sum, r.next = sumOf(s), r.next+uint64(n)
	return r
}

func newRow(anchor api.Digest, first uint64) row {
	return row{anchor: anchor, first: first, sum: anchor, next: first}
}

// rowOf is a row of batches of so many events each.
func rowOf(anchor api.Digest, first uint64, sizes ...int) row {
	r := newRow(anchor, first)
	for i, n := range sizes {
		r = r.with(n, i+1)
	}
	return r
}

// someRows are rows of none, one and several texts, up to the greatest number and beyond it.
func someRows() []row {
	var l []row
	for _, anchor := range []api.Digest{{}, digestOf(3), sumOf("abc")} {
		for _, first := range []uint64{0, 1, 127, 300, 1 << 32, 1<<63 - 2, 1 << 63, mostSeq - 600} {
			for _, sizes := range [][]int{{}, {1}, {256}, {1, 1}, {2, 3}, {256, 1}, {1, 256, 1}, {3, 1, 2, 5}, {1, 1, 1, 1, 1, 1, 1}} {
				l = append(l, rowOf(anchor, first, sizes...))
			}
		}
		for _, sizes := range [][]int{{1}, {3}, {1, 2}, {2, 1, 1}, {1, 1, 1, 1}, {256}, {255, 256}} {
			all := 0
			for _, n := range sizes {
				all += n
			}
			l = append(l, rowOf(anchor, mostSeq-uint64(all)+1, sizes...))
			l = append(l, rowOf(anchor, mostSeq-uint64(all)+1, append(sizes, 1)...))
			l = append(l, rowOf(anchor, mostSeq-uint64(all)+1, append(sizes, 2, 3)...))
		}
	}
	return l
}

// wrongEvents are lists of events of which layer 5 puts no batch: of none, of too many, not right, or not running on.
func wrongEvents() [][]api.Event {
	l := [][]api.Event{nil, {}, eventsOf(5, 257, 0), eventsOf(0, 257, 0), eventsOf(5, 258, 0), eventsOf(5, 3000, 0)}
	for _, n := range []int{1, 2, 7} {
		for at := range n {
			for _, change := range []func(x *api.Event){
				func(x *api.Event) { x.Kind = 0 }, func(x *api.Event) { x.Kind = 9 },
				func(x *api.Event) { x.Tick = -1 }, func(x *api.Event) { x.Tick = 1099511627777 },
				func(x *api.Event) { x.Part = -2 }, func(x *api.Event) { x.Part = 32 },
				func(x *api.Event) { x.A = -1 }, func(x *api.Event) { x.A = 4294967296 },
				func(x *api.Event) { x.B = -1 }, func(x *api.Event) { x.B = 4294967296 },
			} {
				events := eventsOf(300, n, 4)
				change(&events[at])
				l = append(l, events)
			}
			for _, by := range []uint64{1, 2, 1 << 32, 1 << 63, mostSeq, mostSeq - 1} {
				events := eventsOf(300, n, 4)
				events[at].Seq += by
				if n > 1 {
					l = append(l, events)
				}
			}
			if at > 0 && at < n-1 {
				l = append(l, slices.Delete(eventsOf(300, n, 4), at, at+1))
			}
		}
	}
	for n := 2; n < 6; n++ {
		l = append(l, eventsOf(mostSeq-uint64(n)+2, n, 0))
	}
	return append(l, eventsOf(mostSeq, 2, 0), eventsOf(mostSeq-254, 256, 0), eventsOf(mostSeq, 256, 0), slices.Repeat(eventsOf(9, 1, 0), 2))
}

// plainCheck is P9.2, by the library's sums and in numbers without bounds.
func plainCheck(anchor api.Digest, first uint64, l []string) ([]api.Event, api.Digest, api.Errno) {
	var events []api.Event
	for i, text := range l {
		b, n, e := batch.Get(text)
		if e != api.OK {
			return nil, api.Digest{}, e
		}
		if len(text) > n {
			return nil, api.Digest{}, api.ErrForm
		}
		ahead := anchor
		if i > 0 {
			ahead = sumOf(l[i-1])
		}
		if string(b.Prev[:]) != string(ahead[:]) {
			return nil, api.Digest{}, api.ErrChain
		}
		due := new(big.Int).SetUint64(first)
		due.Add(due, big.NewInt(int64(len(events))))
		due.Mod(due, new(big.Int).Lsh(big.NewInt(1), 64))
		if due.Cmp(new(big.Int).SetUint64(b.First)) != 0 {
			return nil, api.Digest{}, api.ErrChain
		}
		events = append(events, b.Events...)
	}
	if len(l) == 0 {
		return events, anchor, api.OK
	}
	return events, sumOf(l[len(l)-1]), api.OK
}

// checked tells of a row of which Check does not answer these.
func checked(t *testing.T, anchor api.Digest, first uint64, l []string, events []api.Event, sum api.Digest, e api.Errno) {
	t.Helper()
	got, s, f := Check(anchor, first, l)
	if !slices.Equal(got, events) || s != sum || f != e {
		t.Errorf("Check of %d texts from %d on: %d events, sum %x, error %d, not %d events, sum %x, error %d", len(l), first, len(got), s[:4], f, len(events), sum[:4], e)
	}
}

// accepted tells of a row that Check does not answer as it was made.
func accepted(t *testing.T, r row) {
	t.Helper()
	checked(t, r.anchor, r.first, r.texts, r.events, r.sum, api.OK)
}

// refused tells of a row that Check does not refuse with e, and nothing else.
func refused(t *testing.T, r row, l []string, e api.Errno) {
	t.Helper()
	checked(t, r.anchor, r.first, l, nil, api.Digest{}, e)
	if _, _, f := plainCheck(r.anchor, r.first, l); f != e {
		t.Errorf("the words of the promise tell error %d, not %d", f, e)
	}
}

// linked tells of events of which Link does not answer these.
func linked(t *testing.T, prev api.Digest, l []api.Event, b api.Batch, s string, e api.Errno) {
	t.Helper()
	a, u, f := Link(prev, l)
	if a.First != b.First || a.Prev != b.Prev || !slices.Equal(a.Events, b.Events) || u != s || f != e {
		t.Errorf("Link of %d events: First %d, Prev %x, %d events, %q, error %d, not First %d, Prev %x, %d events, %q, error %d", len(l), a.First, a.Prev[:4], len(a.Events), u, f, b.First, b.Prev[:4], len(b.Events), s, e)
	}
}

// put is texts with another one at a place.
func put(l []string, at int, s string) []string {
	l = slices.Clone(l)
	l[at] = s
	return l
}

// P9.1: one batch, that was laid by hand and summed elsewhere.
func TestLinkByHand(t *testing.T) {
	l := []api.Event{{Seq: 300, Tick: 5, Part: -1, Kind: 2, A: 1, B: 0}, {Seq: 301, Tick: 128, Part: 31, Kind: 8, A: 2, B: 3}}
	prev := api.Digest(bytesOfHex(t, "ba7816bf8f01cfea414140de5dae2223b00361a396177a9cb410ff61f20015ad"))
	want := bytesOfHex(t, "4200000034ba7816bf8f01cfea414140de5dae2223b00361a396177a9cb410ff61f20015adac02020702ac02050001000808ad028001200203a813417b")
	linked(t, prev, l, api.Batch{First: 300, Events: l, Prev: prev}, string(want), api.OK)
}

// P9.2: two texts that were laid by hand and summed elsewhere.
func TestCheckByHand(t *testing.T) {
	anchor := api.Digest(bytesOfHex(t, "ba7816bf8f01cfea414140de5dae2223b00361a396177a9cb410ff61f20015ad"))
	l := []string{
		string(bytesOfHex(t, "4200000034ba7816bf8f01cfea414140de5dae2223b00361a396177a9cb410ff61f20015adac02020702ac02050001000808ad028001200203a813417b")),
		string(bytesOfHex(t, "4200000030effde9cd9e61b80126bde27c7e814db395e883a35525cca166134cb5bf1604a4ae02010c03ae0280010100ffffffff0fe0734c7f")),
	}
	one, two := api.Digest(bytesOfHex(t, "effde9cd9e61b80126bde27c7e814db395e883a35525cca166134cb5bf1604a4")), api.Digest(bytesOfHex(t, "dd659e749522a8a10ccdd871b3159c272dd912f1be0e46d26e762e4921b76cf8"))
	events := []api.Event{{Seq: 300, Tick: 5, Part: -1, Kind: 2, A: 1, B: 0}, {Seq: 301, Tick: 128, Part: 31, Kind: 8, A: 2, B: 3}, {Seq: 302, Tick: 128, Part: 0, Kind: 3, A: 0, B: 4294967295}}
	checked(t, anchor, 300, nil, nil, anchor, api.OK)
	checked(t, anchor, 300, l[:1], events[:2], one, api.OK)
	checked(t, anchor, 300, l, events, two, api.OK)
	checked(t, one, 302, l[1:], events[2:], two, api.OK)
	checked(t, anchor, 300, l[1:], nil, api.Digest{}, api.ErrChain)
	checked(t, anchor, 302, l[1:], nil, api.Digest{}, api.ErrChain)
	checked(t, one, 300, l[1:], nil, api.Digest{}, api.ErrChain)
	checked(t, two, 300, l, nil, api.Digest{}, api.ErrChain)
	checked(t, anchor, 299, l, nil, api.Digest{}, api.ErrChain)
	checked(t, anchor, 302, l, nil, api.Digest{}, api.ErrChain)
}

// bytesOfHex is the bytes that are told by digits, or the test ends.
func bytesOfHex(t *testing.T, s string) []byte {
	t.Helper()
	b, err := hex.DecodeString(s)
	if err != nil {
		t.Fatal(err)
	}
	return b
}

// P9.1: one event, as many as a batch may have, and between: First is the first one's number, Prev what was handed in.
func TestLink(t *testing.T) {
	for _, prev := range []api.Digest{{}, digestOf(0), digestOf(200), sumOf("abc")} {
		for _, first := range []uint64{0, 1, 127, 128, 300, 1 << 32, 1<<63 - 1, 1 << 63, mostSeq - 300, mostSeq - 255} {
			for _, n := range []int{1, 2, 3, 127, 128, 255, 256} {
				l := eventsOf(first, n, n)
				b := api.Batch{First: first, Events: l, Prev: prev}
				linked(t, prev, l, b, bytesOf(b), api.OK)
			}
		}
		for n := 1; n < 6; n++ {
			l := eventsOf(mostSeq-uint64(n)+1, n, n)
			b := api.Batch{First: mostSeq - uint64(n) + 1, Events: l, Prev: prev}
			linked(t, prev, l, b, bytesOf(b), api.OK)
		}
	}
}

// P9.1: the greatest and the least of events.
func TestLinkEnds(t *testing.T) {
	for _, x := range []api.Event{{Seq: mostSeq, Tick: 1099511627776, Part: 31, Kind: 8, A: 4294967295, B: 4294967295}, {Part: -1, Kind: 1}} {
		b := api.Batch{First: x.Seq, Events: []api.Event{x}, Prev: digestOf(9)}
		linked(t, b.Prev, b.Events, b, bytesOf(b), api.OK)
	}
}

// P9.1: each number of events about both ends; with an error all else is zero.
func TestLinkMany(t *testing.T) {
	for n := range 300 {
		l := eventsOf(9, n, 1)
		if n >= 1 && n <= 256 {
			b := api.Batch{First: 9, Events: l, Prev: digestOf(4)}
			linked(t, digestOf(4), l, b, bytesOf(b), api.OK)
			continue
		}
		linked(t, digestOf(4), l, api.Batch{}, "", api.ErrArg)
	}
}

// P9.1: events of which layer 5 puts no batch.
func TestLinkWrong(t *testing.T) {
	for _, l := range wrongEvents() {
		linked(t, api.Digest{}, l, api.Batch{}, "", api.ErrArg)
		linked(t, digestOf(8), l, api.Batch{}, "", api.ErrArg)
	}
}

// P9.1: whatever Link answers is what layer 5 puts and gets.
func TestLinkIsGot(t *testing.T) {
	for n := 1; n <= 256; n += 5 {
		a, s, e := Link(digestOf(byte(n)), eventsOf(uint64(n)<<40, n, n))
		if e != api.OK {
			t.Fatalf("Link of %d events: error %d", n, e)
		}
		b, many, e := batch.Get(s)
		if b.First != a.First || b.Prev != a.Prev || !slices.Equal(b.Events, a.Events) || many != len(s) || e != api.OK {
			t.Errorf("Get of what Link tells of %d events: %d bytes, error %d", n, many, e)
		}
		if again, e := batch.Put(a); again != s || e != api.OK {
			t.Errorf("Put of what Link tells of %d events: error %d", n, e)
		}
	}
}

// P9.2: no texts: no events, and the anchor, whatever the number.
func TestCheckNone(t *testing.T) {
	for _, anchor := range []api.Digest{{}, digestOf(1), sumOf(""), sumOf("abc")} {
		for _, first := range []uint64{0, 1, 1 << 63, mostSeq} {
			checked(t, anchor, first, nil, nil, anchor, api.OK)
			checked(t, anchor, first, []string{}, nil, anchor, api.OK)
		}
	}
}

// P9.2: rows of none, one and several texts: all events, in order, and the last text's sum; each beginning, too.
func TestCheck(t *testing.T) {
	for _, r := range someRows() {
		accepted(t, r)
		events := 0
		for n := range len(r.texts) {
			sum := r.anchor
			if n > 0 {
				sum = sumOf(r.texts[n-1])
			}
			checked(t, r.anchor, r.first, r.texts[:n], r.events[:events], sum, api.OK)
			events += len(r.batches[n].Events)
		}
	}
}

// P9.2: a row goes on with the number 0 behind the greatest one, and with no other.
func TestCheckBehindTheGreatest(t *testing.T) {
	for _, sizes := range [][]int{{1}, {3}, {256}, {1, 1}, {2, 4}} {
		all := uint64(0)
		for _, n := range sizes {
			all += uint64(n)
		}
		r := rowOf(digestOf(7), mostSeq-all+1, sizes...)
		accepted(t, r)
		accepted(t, r.with(1, 9))
		accepted(t, r.with(256, 9))
		accepted(t, r.with(5, 9).with(4, 9))
		if r.next != 0 {
			t.Fatalf("the row's next number is %d", r.next)
		}
		for _, first := range []uint64{1, 2, 256, r.first, 1 << 63, mostSeq - 1, mostSeq} {
			b := api.Batch{First: first, Events: eventsOf(first, 1, 9), Prev: r.sum}
			refused(t, r, append(slices.Clip(r.texts), bytesOf(b)), api.ErrChain)
		}
	}
	r := rowOf(digestOf(7), 0, 2, 1)
	refused(t, row{anchor: r.anchor, first: mostSeq}, r.texts, api.ErrChain)
	refused(t, row{anchor: r.anchor, first: 1}, r.texts, api.ErrChain)
}

// fault is a text that stands in a row where a right one should, and what is told of it.
type fault struct {
	what string
	text string
	e    api.Errno
}

// noBatches are faults that layer 5's Get tells, of the bytes of a right batch.
func noBatches(s string) []fault {
	last := len(s) - 1
	turned := func(at int) string { return s[:at] + string([]byte{s[at] ^ 1}) + s[at+1:] }
	body := s[5 : len(s)-4]
	return []fault{
		{"no bytes", "", api.ErrMore},
		{"one byte", s[:1], api.ErrMore},
		{"four bytes", s[:4], api.ErrMore},
		{"five bytes", s[:5], api.ErrMore},
		{"a byte short", s[:last], api.ErrMore},
		{"another mark", "C" + s[1:], api.ErrForm},
		{"another mark alone", "\x00", api.ErrForm},
		{"too long", "B\x00\x00\x40\x01" + s[5:], api.ErrLimit},
		{"too long by far", "B\xff\xff\xff\xff" + strings.Repeat("z", 20000), api.ErrLimit},
		{"longer than it is", "B\x00\x00\x40\x00" + s[5:], api.ErrMore},
		{"the sum", turned(last), api.ErrSum},
		{"the sum's first byte", turned(last - 3), api.ErrSum},
		{"Prev, not summed", turned(5), api.ErrSum},
		{"an event, not summed", turned(last - 4), api.ErrSum},
		{"no body", framed(""), api.ErrForm},
		{"no events", framed(body[:32] + "\x07\x00"), api.ErrForm},
		{"less body", framed(body[:len(body)-1]), api.ErrForm},
		{"more body", framed(body + "\x00"), api.ErrForm},
	}
}

// behind are faults of bytes that stand behind a batch's bytes.
func behind(s string) []fault {
	var l []fault
	for _, b := range []string{"\x00", "B", "behind", "\xff\xff", s[:1], s[:len(s)-1], s} {
		l = append(l, fault{"behind: " + b, s + b, api.ErrForm})
	}
	return l
}

// unlinked are right batches that do not go on as b does: of another Prev in each bit, of some Prevs that are near, of other numbers, or both.
func unlinked(b api.Batch, near ...api.Digest) []fault {
	var l []fault
	for at := range 32 {
		for bit := range 8 {
			x := b
			x.Prev[at] ^= 1 << bit
			l = append(l, fault{"Prev's byte", bytesOf(x), api.ErrChain})
		}
	}
	for _, prev := range near {
		x := b
		x.Prev = prev
		if prev != b.Prev {
			l = append(l, fault{"another Prev", bytesOf(x), api.ErrChain})
		}
	}
	for _, by := range []uint64{1, 2, 255, 256, 1 << 32, 1 << 63, mostSeq, mostSeq - 1} {
		x := api.Batch{First: b.First + by, Events: eventsOf(b.First+by, 1, 3), Prev: b.Prev}
		l = append(l, fault{"First", bytesOf(x), api.ErrChain})
		x.Prev = digestOf(77)
		l = append(l, fault{"Prev and First", bytesOf(x), api.ErrChain})
	}
	return l
}

// several are texts that have two faults and more: that one is told that P9.2 names first.
func several(b api.Batch) []fault {
	var l []fault
	other := func(change func(x *api.Batch)) string {
		x := b
		x.Events = slices.Clone(b.Events)
		change(&x)
		for i := range x.Events {
			x.Events[i].Seq = x.First + uint64(i)
		}
		return bytesOf(x)
	}
	for _, s := range []string{
		other(func(x *api.Batch) { x.Prev[0] ^= 128 }),
		other(func(x *api.Batch) { x.Prev[31] ^= 1 }),
		other(func(x *api.Batch) { x.First ^= 1 }),
		other(func(x *api.Batch) { x.First ^= 1; x.Prev[31] ^= 1 }),
	} {
		l = append(l, behind(s)...)
		l = append(l, noBatches(s)...)
		for _, x := range noBatches(s) {
			if x.e == api.ErrSum || x.e == api.ErrLimit || x.e == api.ErrForm {
				x.text += "\x00"
				l = append(l, x)
			}
		}
	}
	return l
}

// faultsAt are all of these, of what stands in a row at a place.
func faultsAt(r row, at int) []fault {
	b, s := r.batches[at], r.texts[at]
	near := []api.Digest{{}, r.anchor, r.sum, sumOf(""), sumOf(s), sumOf(s[:len(s)-1])}
	for _, x := range r.batches {
		near = append(near, x.Prev)
	}
	l := append(noBatches(s), behind(s)...)
	l = append(l, unlinked(b, near...)...)
	return append(l, several(b)...)
}

// relinked is the row's texts with another one at a place, behind which all go on from that one's sum.
func relinked(r row, at int, s string) []string {
	l := put(r.texts, at, s)
	for i := at + 1; i < len(l); i++ {
		b := r.batches[i]
		b.Prev = sumOf(l[i-1])
		l[i] = bytesOf(b)
	}
	return l
}

// P9.2: each fault at each text of a row, with those behind it as they were, linked anew, or left out.
func TestCheckFaults(t *testing.T) {
	for _, r := range []row{rowOf(digestOf(5), 300, 2), rowOf(api.Digest{}, 0, 1, 3, 2), rowOf(digestOf(6), mostSeq-4, 3, 2, 1, 4)} {
		for at := range r.texts {
			for _, x := range faultsAt(r, at) {
				was := t.Failed()
				refused(t, r, put(r.texts, at, x.text), x.e)
				refused(t, r, relinked(r, at, x.text), x.e)
				refused(t, r, put(r.texts[:at+1], at, x.text), x.e)
				if t.Failed() && !was {
					t.Errorf("the first of these: text %d, %s", at, x.what)
				}
			}
		}
	}
}

// P9.2: of two texts that are at fault the one that stands ahead is told.
func TestCheckFirstFault(t *testing.T) {
	r := rowOf(digestOf(5), 300, 2, 1, 3)
	some := func(at int) []fault {
		b, s := r.batches[at], r.texts[at]
		l := append(noBatches(s), behind(s)[:2]...)
		l = append(l, unlinked(b)[:1]...)
		b.First++
		b.Events = eventsOf(b.First, 1, 1)
		return append(l, fault{"First", bytesOf(b), api.ErrChain})
	}
	for at := range r.texts {
		for later := at + 1; later < len(r.texts); later++ {
			for _, x := range some(at) {
				for _, y := range some(later) {
					refused(t, r, put(put(r.texts, at, x.text), later, y.text), x.e)
				}
			}
		}
	}
}

// P9.2: another anchor, in each of its bits, or another number: just the first text does not go on from them.
func TestCheckFrom(t *testing.T) {
	for _, r := range []row{rowOf(digestOf(5), 300, 2), rowOf(api.Digest{}, 0, 1, 3, 2), rowOf(digestOf(5), mostSeq, 1, 2)} {
		for at := range 32 {
			for bit := range 8 {
				x := r
				x.anchor[at] ^= 1 << bit
				refused(t, x, r.texts, api.ErrChain)
				checked(t, x.anchor, x.first, nil, nil, x.anchor, api.OK)
			}
		}
		for bit := range 64 {
			x := r
			x.first ^= 1 << bit
			refused(t, x, r.texts, api.ErrChain)
		}
		for _, by := range []uint64{1, 2, 256, mostSeq, mostSeq - 1} {
			x := r
			x.first += by
			refused(t, x, r.texts, api.ErrChain)
		}
		checked(t, r.anchor, r.first, r.texts, r.events, r.sum, api.OK)
	}
}

// P9.2: texts whose events are fit for one another, but that do not tell the sum of the text that stands ahead.
func TestCheckAnchorsAlone(t *testing.T) {
	r := rowOf(digestOf(5), 300, 2, 3)
	for _, prev := range []api.Digest{r.anchor, {}, sumOf(r.texts[0][:len(r.texts[0])-4]), sumOf(r.texts[0][5:]), sumOf(string(r.sum[:]))} {
		b := r.batches[1]
		b.Prev = prev
		refused(t, r, put(r.texts, 1, bytesOf(b)), api.ErrChain)
	}
	one, _ := batch.Sum(r.batches[0])
	if one != r.batches[1].Prev {
		t.Errorf("the sum of the first batch is not what the second one tells")
	}
}

// P9.3: k goes from the ends on, as long as both rows have so many texts more.
func plainClash(a, b []string) (string, string, bool) {
	a, b = slices.Clone(a), slices.Clone(b)
	slices.Reverse(a)
	slices.Reverse(b)
	for k := 0; k < len(a) && k < len(b); k++ {
		if a[k] != b[k] {
			return a[k], b[k], sumOf(a[k]) == sumOf(b[k])
		}
	}
	return "", "", false
}

// clashed tells of rows of which Clash does not answer these.
func clashed(t *testing.T, a, b []string, x, y string, same bool) {
	t.Helper()
	if u, v, is := Clash(a, b); u != x || v != y || is != same {
		t.Errorf("Clash of %q and %q: %q, %q, %v, not %q, %q, %v", a, b, u, v, is, x, y, same)
	}
}

// P9.3: rows by hand.
func TestClashByHand(t *testing.T) {
	for _, x := range []struct{ a, b, one, two string }{
		{"", "", "", ""}, {"p", "", "", ""}, {"", "p q", "", ""},
		{"p", "p", "", ""}, {"p q r", "p q r", "", ""},
		{"p", "q", "p", "q"}, {"q", "p", "q", "p"},
		{"p q r", "s q r", "p", "s"}, {"p q r", "p s r", "q", "s"}, {"p q r", "p q s", "r", "s"},
		{"p q r", "s t r", "q", "t"}, {"p q r", "s q t", "r", "t"}, {"p q r", "s t u", "r", "u"},
		{"p q r", "q r", "", ""}, {"r", "p q r", "", ""}, {"p q r", "p q", "r", "q"}, {"p", "p q r", "p", "r"},
		{"p q r", "s r", "q", "s"}, {"s q r", "p p q r", "s", "p"}, {"p q r", "p p q r", "", ""},
	} {
		clashed(t, strings.Fields(x.a), strings.Fields(x.b), x.one, x.two, false)
	}
	clashed(t, nil, nil, "", "", false)
	clashed(t, nil, []string{""}, "", "", false)
	clashed(t, []string{""}, []string{"p"}, "", "p", false)
	clashed(t, []string{"p", "q"}, []string{"", "q"}, "p", "", false)
}

// P9.3: all rows of up to four of three texts, one against the other.
func TestClash(t *testing.T) {
	rows := [][]string{nil}
	for i := 0; i < len(rows); i++ {
		for _, s := range []string{"", "p", "pq"} {
			if len(rows[i]) < 4 {
				rows = append(rows, append(slices.Clip(rows[i]), s))
			}
		}
	}
	for _, a := range rows {
		for _, b := range rows {
			x, y, same := plainClash(a, b)
			clashed(t, a, b, x, y, same)
		}
	}
}

// P9.3: long texts that differ in one byte.
func TestClashLong(t *testing.T) {
	r := rowOf(digestOf(5), 300, 256, 256, 256)
	for at := range r.texts {
		s := r.texts[at]
		for _, place := range []int{0, len(s) / 2, len(s) - 1} {
			other := s[:place] + string([]byte{s[place] ^ 1}) + s[place+1:]
			clashed(t, r.texts, put(r.texts, at, other), s, other, false)
			clashed(t, put(r.texts, at, other), r.texts, other, s, false)
		}
		clashed(t, r.texts, put(r.texts, at, s+"\x00"), s, s+"\x00", false)
	}
	clashed(t, r.texts, slices.Clone(r.texts), "", "", false)
}

// P9.3: that two texts have one sum is told of what has one; of those that differ, none such are known.
func TestSameSum(t *testing.T) {
	texts := []string{"", "a", "b", "\x00", "\x00\x00", strings.Repeat("a", 64), strings.Repeat("a", 65), bytesOf(api.Batch{First: 1, Events: eventsOf(1, 9, 0)})}
	for i, x := range texts {
		for j, y := range texts {
			if is := sameSum(x, strings.Clone(y)); is != (i == j) {
				t.Errorf("texts %d and %d have one sum: %v", i, j, is)
			}
		}
	}
}

// P9.4: a checked row with one batch more, that Links to its sum, is checked; each beginning of it is, too.
func TestGrow(t *testing.T) {
	for _, r := range someRows() {
		texts, events, sum, next := slices.Clip(r.texts), slices.Clip(r.events), r.sum, r.next
		for i, n := range []int{1, 256, 3} {
			if next > mostSeq-uint64(n)+1 {
				break
			}
			more := eventsOf(next, n, i)
			_, s, e := Link(sum, more)
			if e != api.OK {
				t.Fatalf("Link of %d events from %d on: error %d", n, next, e)
			}
			texts, events = append(texts, s), append(events, more...)
			sum, next = sumOf(s), next+uint64(n)
			checked(t, r.anchor, r.first, texts, events, sum, api.OK)
		}
		for n := range texts {
			_, _, e := Check(r.anchor, r.first, texts[:n])
			if e != api.OK {
				t.Errorf("the beginning of %d texts: error %d", n, e)
			}
		}
	}
}

// P9.4: what is linked to a sum that a row has not, or begins at another number, is not checked behind it.
func TestGrowWrong(t *testing.T) {
	r := rowOf(digestOf(5), 300, 2, 1, 3)
	for _, prev := range []api.Digest{{}, r.anchor, r.batches[1].Prev, r.batches[2].Prev, digestOf(1)} {
		_, s, _ := Link(prev, eventsOf(r.next, 2, 1))
		refused(t, r, append(slices.Clip(r.texts), s), api.ErrChain)
	}
	for _, first := range []uint64{0, r.first, r.next - 1, r.next + 1, mostSeq} {
		_, s, _ := Link(r.sum, eventsOf(first, 1, 1))
		refused(t, r, append(slices.Clip(r.texts), s), api.ErrChain)
	}
}

// bent tells of another row than r, that is neither refused nor of another sum.
func bent(t *testing.T, r row, l []string, what string) {
	t.Helper()
	events, sum, e := Check(r.anchor, r.first, l)
	if slices.Equal(l, r.texts) || e == api.OK && sum == r.sum {
		t.Errorf("%s: %d events, sum %x, error %d: it is taken for the row", what, len(events), sum[:4], e)
	}
	same(t, r, l)
}

// same tells of a row that Check answers in another way than the words of the promise.
func same(t *testing.T, r row, l []string) {
	t.Helper()
	events, sum, e := plainCheck(r.anchor, r.first, l)
	checked(t, r.anchor, r.first, l, events, sum, e)
}

// P9.4: a text left out, told twice, put in, or two changed about.
func TestBentRow(t *testing.T) {
	for _, r := range []row{rowOf(digestOf(5), 300, 2, 1, 3, 1, 1), rowOf(api.Digest{}, 0, 1), rowOf(api.Digest{}, 0, 1, 1), rowOf(digestOf(9), 1<<63, 256, 256, 1)} {
		other := rowOf(digestOf(6), 300, 1, 2, 3)
		for i, s := range r.texts {
			bent(t, r, slices.Delete(slices.Clone(r.texts), i, i+1), "left out")
			bent(t, r, slices.Insert(slices.Clone(r.texts), i, s), "told twice")
			for j := range r.texts {
				for _, u := range []string{s, other.texts[0], other.texts[2], ""} {
					bent(t, r, slices.Insert(slices.Clone(r.texts), j, u), "put in")
				}
				if i != j {
					l := slices.Clone(r.texts)
					l[i], l[j] = l[j], l[i]
					bent(t, r, l, "changed about")
					bent(t, r, put(r.texts, i, r.texts[j]), "taken for another")
				}
			}
			bent(t, r, append(slices.Clip(r.texts), s), "put behind")
			for j := range i {
				bent(t, r, slices.Delete(slices.Clone(r.texts), j, i), "several left out")
			}
		}
		bent(t, r, r.with(1, 4).texts, "one more")
		bent(t, r, r.texts[:len(r.texts)-1], "the last one left out")
		bent(t, r, r.texts[1:], "the first one left out")
	}
}

// P9.4: a text with another event, with its own sum made anew, and with all that stand behind linked anew.
func TestBentEvent(t *testing.T) {
	r := rowOf(digestOf(5), 300, 2, 1, 3)
	for at, b := range r.batches {
		for i := range b.Events {
			for _, change := range []func(x *api.Event){
				func(x *api.Event) { x.Tick++ }, func(x *api.Event) { x.Part ^= 1 }, func(x *api.Event) { x.Kind ^= 1 },
				func(x *api.Event) { x.A ^= 1 }, func(x *api.Event) { x.B ^= 1 << 31 },
			} {
				x := b
				x.Events = slices.Clone(b.Events)
				change(&x.Events[i])
				if !batch.Is(x) {
					continue
				}
				s := bytesOf(x)
				bent(t, r, put(r.texts, at, s), "changed")
				bent(t, r, relinked(r, at, s), "changed, and linked anew")
				// What was changed, and linked anew, is a row of its own.
				if _, _, e := Check(r.anchor, r.first, relinked(r, at, s)); e != api.OK {
					t.Errorf("text %d, event %d: error %d of a row that goes on", at, i, e)
				}
			}
		}
	}
}

// P9.4: each byte of each text changed, left out, or told twice.
func TestBentByte(t *testing.T) {
	r := rowOf(digestOf(5), 300, 2, 1, 3)
	for at, s := range r.texts {
		for i := range len(s) {
			for _, by := range []byte{1, 2, 4, 8, 16, 32, 64, 128, 255} {
				bent(t, r, put(r.texts, at, s[:i]+string([]byte{s[i] ^ by})+s[i+1:]), "a byte changed")
			}
			bent(t, r, put(r.texts, at, s[:i]+s[i+1:]), "a byte left out")
			bent(t, r, put(r.texts, at, s[:i+1]+s[i:]), "a byte told twice")
			bent(t, r, put(r.texts, at, s[:i]), "cut short")
		}
	}
}

// P9.4: of many rows that are checked from one anchor and number, those that have one sum are the same; Clash tells where others differ.
func TestRowsOfOneSum(t *testing.T) {
	var rows []row
	for _, one := range []int{1, 2, 3} {
		for _, two := range []int{0, 1, 2} {
			for _, three := range []int{0, 1, 4} {
				for mark := range 2 {
					x := newRow(digestOf(5), 300).with(one, mark)
					if two > 0 {
						x = x.with(two, mark)
					}
					if three > 0 {
						x = x.with(three, 0)
					}
					rows = append(rows, x)
				}
			}
		}
	}
	for _, a := range rows {
		accepted(t, a)
		for _, b := range rows {
			x, y, oneSum := Clash(a.texts, b.texts)
			alike := slices.Equal(a.texts, b.texts)
			if (a.sum == b.sum) != alike || oneSum || alike && (x != "" || y != "") || !alike && x == y {
				t.Errorf("rows of %d and %d texts: alike %v, %q and %q, one sum %v", len(a.texts), len(b.texts), alike, x, y, oneSum)
			}
		}
	}
}

// numbers tells numbers that seem to have no order, always the same.
type numbers uint32

func (n *numbers) below(most int) int {
	*n = *n*1664525 + 1013904223
	return int(uint32(*n)>>8) % most
}

// change is the texts with some one thing done to them.
func (n *numbers) change(r row, l []string) []string {
	if len(l) == 0 {
		return l
	}
	at, other := n.below(len(l)), n.below(len(l))
	switch n.below(9) {
	case 0:
		return slices.Delete(l, at, at+1)
	case 1:
		return slices.Insert(l, at, l[other])
	case 2:
		l[at], l[other] = l[other], l[at]
	case 3:
		l[at] += l[other]
	case 4:
		l[at] = l[at][:n.below(len(l[at])+1)]
	case 5:
		x := []byte(l[at])
		if len(x) > 0 {
			x[n.below(len(x))] ^= 1 << n.below(8)
		}
		l[at] = string(x)
	case 6:
		x := r.batches[n.below(len(r.batches))]
		x.Prev[n.below(32)] ^= 1 << n.below(8)
		l[at] = bytesOf(x)
	case 7:
		x := api.Batch{First: r.first + uint64(n.below(9)), Prev: r.batches[n.below(len(r.batches))].Prev}
		x.Events = eventsOf(x.First, 1+n.below(4), n.below(3))
		l[at] = bytesOf(x)
	default:
		return append(l, r.texts[n.below(len(r.texts))])
	}
	return l
}

// P9.2 and P9.4: long rows, as they are, and with some changes.
func TestLongRows(t *testing.T) {
	n := numbers(3)
	for range 60 {
		r := newRow(digestOf(byte(n.below(256))), uint64(n.below(1000))+uint64(n.below(2))<<63)
		for range 1 + n.below(30) {
			r = r.with(1+n.below(6), n.below(9))
		}
		accepted(t, r)
		for range 40 {
			l := slices.Clone(r.texts)
			for range 1 + n.below(3) {
				l = n.change(r, l)
			}
			same(t, r, l)
			if !slices.Equal(l, r.texts) {
				bent(t, r, l, "some changes")
			}
			x, y, one := plainClash(r.texts, l)
			clashed(t, r.texts, l, x, y, one)
		}
	}
}

// P9.2: a row of many texts.
func TestManyTexts(t *testing.T) {
	r := newRow(digestOf(1), 1<<40)
	for i := range 400 {
		b := api.Batch{First: r.next, Events: eventsOf(r.next, 1+i%4, i), Prev: r.sum}
		s := bytesOf(b)
		r.texts, r.events = append(r.texts, s), append(r.events, b.Events...)
		r.sum, r.next = sumOf(s), r.next+uint64(len(b.Events))
	}
	accepted(t, r)
	refused(t, r, put(r.texts, 399, r.texts[399]+"\x00"), api.ErrForm)
	refused(t, r, put(r.texts, 399, r.texts[398]), api.ErrChain)
	refused(t, r, r.texts[1:], api.ErrChain)
}

// R2: what is handed to Link stays as it is, and the batch that it tells is not changed by what becomes of that.
func TestLinkKeeps(t *testing.T) {
	all := eventsOf(300, 5, 1)
	l := all[:3:5]
	prev := digestOf(2)
	b, s, _ := Link(prev, l)
	want := api.Batch{First: 300, Events: eventsOf(300, 3, 1), Prev: digestOf(2)}
	if !slices.Equal(all, eventsOf(300, 5, 1)) {
		t.Errorf("the events that were handed in are %v now", all)
	}
	l[0].A, l[1] = 9, api.Event{}
	prev[0]++
	Link(digestOf(9), eventsOf(7, 3, 4))
	if b.First != want.First || b.Prev != want.Prev || !slices.Equal(b.Events, want.Events) || s != bytesOf(want) {
		t.Errorf("the batch is %v now", b)
	}
	b.Events = append(b.Events, api.Event{Seq: 77})
	b.Events[2].B = 12345
	if !slices.Equal(all[2:], eventsOf(300, 5, 1)[2:]) {
		t.Errorf("the events that were handed in are %v now", all)
	}
}

// R2: what is handed to Check stays as it is, and the events that it tells are not changed by what becomes of that, or by later calls.
func TestCheckKeeps(t *testing.T) {
	for _, r := range []row{rowOf(digestOf(5), 300, 4), rowOf(digestOf(5), 300, 2, 1, 3)} {
		all := append(slices.Clone(r.texts), "behind")
		l := all[:len(r.texts)]
		events, sum, _ := Check(r.anchor, r.first, l)
		again, _, _ := Check(r.anchor, r.first, l)
		if !slices.Equal(all[:len(l)], r.texts) || all[len(l)] != "behind" {
			t.Errorf("the texts that were handed in are %q now", all)
		}
		for i := range again {
			again[i] = api.Event{}
		}
		l[0] = "other"
		Check(r.anchor, r.first, l)
		if !slices.Equal(events, r.events) || sum != r.sum {
			t.Errorf("the events are %v now", events)
		}
		accepted(t, r)
	}
}

// R2: what is handed to Clash stays as it is.
func TestClashKeeps(t *testing.T) {
	a, b := []string{"p", "q", "r", "s"}, []string{"p", "t", "r", "u"}
	clashed(t, a[:3], b[:3], "q", "t", false)
	if !slices.Equal(a, []string{"p", "q", "r", "s"}) || !slices.Equal(b, []string{"p", "t", "r", "u"}) {
		t.Errorf("%q and %q now", a, b)
	}
	clashed(t, a[:3], b[:3], "q", "t", false)
}
