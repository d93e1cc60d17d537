package segment

import (
	"crypto/sha256"
	"encoding/binary"
	"encoding/hex"
	"hash/crc32"
	"math"
	"math/big"
	"slices"
	"strings"
	"testing"
	"unsafe"

	"blackbox/api"
	"blackbox/area"
	"blackbox/batch"
	"blackbox/chain"
	"blackbox/header"
	"blackbox/sector"
)

const mostSeq = 18446744073709551615

// sumOf is a text's sum, by the library.
func sumOf(s string) api.Digest { return sha256.Sum256([]byte(s)) }

// summed is a text with its sum of 32 bits behind it, by the library.
func summed(s string) string {
	return s + string(binary.BigEndian.AppendUint32(nil, crc32.ChecksumIEEE([]byte(s))))
}

// framed is a body with what P5.1 says stands about it, whatever it is.
func framed(body string) string {
	return summed("B" + string(binary.BigEndian.AppendUint32(nil, uint32(len(body)))) + body)
}

// headBytes is what P6.1 says of PutHead, by the library.
func headBytes(h api.Head) string {
	b := binary.BigEndian.AppendUint64([]byte("H"), h.Id)
	b = binary.BigEndian.AppendUint64(b, h.First)
	return summed(string(append(b, h.Anchor[:]...)) + zeros(11))
}

func zeros(many int) string { return strings.Repeat("\x00", many) }

// mixed is many bytes that differ, and from those of another n.
func mixed(n, many int) string {
	b := make([]byte, many)
	for i := range b {
		b[i] = byte(n*37 + i*5 + i/51 + 1)
	}
	return string(b)
}

// digestOf is 32 bytes that differ, from c on.
func digestOf(c byte) api.Digest {
	var d api.Digest
	for i := range d {
		d[i] = c + byte(i)*7
	}
	return d
}

// eventsOf is n events that are right, the first one of the number first, each of one more than that ahead, as numbers of 64 bits; those of another first or mark differ.
func eventsOf(first uint64, n, mark int) []api.Event {
	var l []api.Event
	for i := range n {
		l = append(l, api.Event{Seq: first + uint64(i), Tick: i*i + mark, Part: (i+mark)%33 - 1, Kind: (i+mark)%8 + 1, A: i * 77, B: 300 - i%300})
	}
	return l
}

// textOf is the bytes of the batch of these events, that tells that sum; it must be right.
func textOf(prev api.Digest, events []api.Event) string {
	s, e := batch.Put(api.Batch{First: events[0].Seq, Events: events, Prev: prev})
	if e != api.OK {
		panic(e)
	}
	return s
}

// begun is the scan of a head alone.
func begun(h api.Head) api.Scan {
	return api.Scan{Head: h, Sum: h.Anchor, Next: h.First, End: 64}
}

// with is a scan with one batch more, of n events.
func with(s api.Scan, n, mark int) api.Scan {
	events := eventsOf(s.Next, n, mark)
	text := textOf(s.Sum, events)
	s.Texts = append(slices.Clip(s.Texts), text)
	s.Events = append(slices.Clip(s.Events), events...)
	s.Sum, s.Next, s.End = sumOf(text), s.Next+uint64(n), s.End+len(text)
	return s
}

// scanOf is the scan of a head and batches of so many events each.
func scanOf(h api.Head, sizes ...int) api.Scan {
	s := begun(h)
	for i, n := range sizes {
		s = with(s, n, i+1)
	}
	return s
}

// bytesOf is the bytes of which this is the scan.
func bytesOf(s api.Scan) string { return headBytes(s.Head) + strings.Join(s.Texts, "") }

func sameScan(a, b api.Scan) bool {
	return a.Head == b.Head && slices.Equal(a.Texts, b.Texts) && slices.Equal(a.Events, b.Events) && a.Sum == b.Sum && a.Next == b.Next && a.End == b.End
}

// isScan tells of a scan that is not the one it should be.
func isScan(t *testing.T, what string, got api.Scan, e api.Errno, want api.Scan, f api.Errno) {
	t.Helper()
	if e != f || !sameScan(got, want) {
		t.Errorf("%s: error %d, %s; not error %d, %s", what, e, told(got), f, told(want))
	}
}

// told is a scan in a few words.
func told(s api.Scan) string {
	n := func(many int) string { return big.NewInt(int64(many)).String() }
	return "head " + new(big.Int).SetUint64(s.Head.Id).String() + ", " + n(len(s.Texts)) + " texts, " + n(len(s.Events)) + " events, sum " + hex.EncodeToString(s.Sum[:4]) + ", next " + new(big.Int).SetUint64(s.Next).String() + ", end " + n(s.End)
}

// plainRead is P10.1, by the library's sums and in numbers without bounds: all that is told of the batches is worked out anew from the lists.
func plainRead(b string) (api.Scan, api.Errno) {
	h, e := header.GetHead(b)
	if e != api.OK {
		return api.Scan{}, e
	}
	s := api.Scan{Head: h}
	for {
		s.Sum = h.Anchor
		if len(s.Texts) > 0 {
			s.Sum = sumOf(s.Texts[len(s.Texts)-1])
		}
		next := new(big.Int).SetUint64(h.First)
		next.Add(next, big.NewInt(int64(len(s.Events))))
		s.Next = next.Mod(next, new(big.Int).Lsh(big.NewInt(1), 64)).Uint64()
		s.End = 64 + len(strings.Join(s.Texts, ""))
		x, n, e := batch.Get(b[s.End:])
		if e != api.OK || string(x.Prev[:]) != string(s.Sum[:]) || x.First != s.Next {
			return s, api.OK
		}
		s.Texts = append(s.Texts, b[s.End:s.End+n])
		s.Events = append(s.Events, x.Events...)
	}
}

// reads tells of bytes that Read does not answer with this scan, or this error.
func reads(t *testing.T, what, b string, want api.Scan, e api.Errno) {
	t.Helper()
	s, f := Read(b)
	isScan(t, "Read of "+what, s, f, want, e)
	s, f = plainRead(b)
	isScan(t, "the words of the promise, of "+what, s, f, want, e)
}

// someHeads are heads with small and great numbers.
func someHeads() []api.Head {
	return []api.Head{
		{}, {Id: 1}, {First: 1}, {Anchor: digestOf(3)}, {Id: 7, First: 300, Anchor: sumOf("abc")},
		{Id: 1 << 63, First: 1<<63 - 1, Anchor: digestOf(200)}, {Id: mostSeq, First: mostSeq - 600, Anchor: digestOf(9)},
	}
}

// someScans are scans of no, one and several batches, up to the greatest number and beyond it.
func someScans() []api.Scan {
	var l []api.Scan
	for _, h := range someHeads() {
		for _, sizes := range [][]int{{}, {1}, {2}, {256}, {1, 1}, {2, 3}, {256, 1}, {1, 256, 1}, {3, 1, 2, 5}, {1, 1, 1, 1, 1, 1, 1}} {
			l = append(l, scanOf(h, sizes...))
		}
	}
	for _, sizes := range [][]int{{1}, {3}, {1, 2}, {2, 1, 1}, {256}, {255, 256}} {
		all := 0
		for _, n := range sizes {
			all += n
		}
		h := api.Head{Id: 5, First: mostSeq - uint64(all) + 1, Anchor: digestOf(byte(all))}
		l = append(l, scanOf(h, sizes...), scanOf(h, append(sizes, 1)...), scanOf(h, append(sizes, 2, 3)...))
	}
	return l
}

// P10.1: a head and two batches, that were laid by hand and summed elsewhere.
func TestReadByHand(t *testing.T) {
	head := "480000000000000007000000000000012cba7816bf8f01cfea414140de5dae2223b00361a396177a9cb410ff61f20015ad000000000000000000000030ff1d43"
	one := bytesOfHex(t, "4200000034ba7816bf8f01cfea414140de5dae2223b00361a396177a9cb410ff61f20015adac02020702ac02050001000808ad028001200203a813417b")
	two := bytesOfHex(t, "4200000030effde9cd9e61b80126bde27c7e814db395e883a35525cca166134cb5bf1604a4ae02010c03ae0280010100ffffffff0fe0734c7f")
	events := []api.Event{{Seq: 300, Tick: 5, Part: -1, Kind: 2, A: 1}, {Seq: 301, Tick: 128, Part: 31, Kind: 8, A: 2, B: 3}, {Seq: 302, Tick: 128, Kind: 3, B: 4294967295}}
	h := api.Head{Id: 7, First: 300, Anchor: api.Digest([]byte(bytesOfHex(t, "ba7816bf8f01cfea414140de5dae2223b00361a396177a9cb410ff61f20015ad")))}
	sumOne := api.Digest([]byte(bytesOfHex(t, "effde9cd9e61b80126bde27c7e814db395e883a35525cca166134cb5bf1604a4")))
	sumTwo := api.Digest([]byte(bytesOfHex(t, "dd659e749522a8a10ccdd871b3159c272dd912f1be0e46d26e762e4921b76cf8")))
	b := bytesOfHex(t, head)
	none := api.Scan{Head: h, Sum: h.Anchor, Next: 300, End: 64}
	reads(t, "a head", b, none, api.OK)
	reads(t, "a head, and the second batch", b+two, none, api.OK)
	reads(t, "a head, and one batch", b+one, api.Scan{Head: h, Texts: []string{one}, Events: events[:2], Sum: sumOne, Next: 302, End: 125}, api.OK)
	reads(t, "a head, and two batches", b+one+two, api.Scan{Head: h, Texts: []string{one, two}, Events: events, Sum: sumTwo, Next: 303, End: 182}, api.OK)
}

// bytesOfHex is the bytes that are told by digits, or the test ends.
func bytesOfHex(t *testing.T, s string) string {
	t.Helper()
	b, err := hex.DecodeString(s)
	if err != nil {
		t.Fatal(err)
	}
	return string(b)
}

// P10.1: no bytes, fewer than a head's, and a head alone.
func TestReadShort(t *testing.T) {
	for _, h := range someHeads() {
		b := headBytes(h)
		for n := range 64 {
			reads(t, "a head cut short", b[:n], api.Scan{}, api.ErrMore)
			reads(t, "zeros", zeros(n), api.Scan{}, api.ErrMore)
		}
		reads(t, "a head alone", b, begun(h), api.OK)
	}
	reads(t, "no bytes", "", api.Scan{}, api.ErrMore)
}

// noHeads are bytes that are as long as a head, and no head, and what is told of them.
func noHeads() []struct {
	b string
	e api.Errno
} {
	b := headBytes(api.Head{Id: 7, First: 300, Anchor: digestOf(4)})
	l := []struct {
		b string
		e api.Errno
	}{{zeros(64), api.ErrForm}, {"B" + b[1:], api.ErrForm}, {mixed(3, 64), api.ErrForm}, {summed("S" + b[1:60]), api.ErrForm}}
	for i := 1; i < 64; i++ {
		l = append(l, struct {
			b string
			e api.Errno
		}{b[:i] + string([]byte{b[i] ^ 4}) + b[i+1:], api.ErrSum})
	}
	for i := 49; i < 60; i++ {
		l = append(l, struct {
			b string
			e api.Errno
		}{summed(b[:i] + "\x01" + b[i+1:60]), api.ErrForm})
	}
	return l
}

// P10.1: bytes that begin with no head: each error, and no scan beside it, whatever stands behind.
func TestReadNoHead(t *testing.T) {
	s := scanOf(api.Head{Id: 7, First: 300, Anchor: digestOf(4)}, 2, 1)
	for _, x := range noHeads() {
		reads(t, "no head", x.b, api.Scan{}, x.e)
		reads(t, "no head ahead of zeros", x.b+zeros(300), api.Scan{}, x.e)
		reads(t, "no head ahead of batches", x.b+strings.Join(s.Texts, ""), api.Scan{}, x.e)
		reads(t, "no head ahead of a segment", x.b+bytesOf(s), api.Scan{}, x.e)
	}
	reads(t, "a batch", s.Texts[0]+zeros(64), api.Scan{}, api.ErrForm)
	reads(t, "a super", header.PutSuper(api.Super{Id: 7, First: 300}), api.Scan{}, api.ErrForm)
}

// P10.1: each part of the scan of a head with no, one and several batches.
func TestRead(t *testing.T) {
	for _, s := range someScans() {
		reads(t, "a segment", bytesOf(s), s, api.OK)
		part := begun(s.Head)
		reads(t, "a head", headBytes(s.Head), part, api.OK)
		for i, text := range s.Texts {
			part = scanOf(s.Head)
			part.Texts = s.Texts[:i+1]
			for _, x := range part.Texts {
				b, n, e := batch.Get(x)
				if n != len(x) || e != api.OK {
					t.Fatalf("text %d: %d bytes, error %d", i, n, e)
				}
				part.Events = append(part.Events, b.Events...)
				part.Next, part.End = part.Next+uint64(len(b.Events)), part.End+n
			}
			part.Sum = sumOf(text)
			reads(t, "a segment's beginning", bytesOf(part), part, api.OK)
		}
		if part.Sum != s.Sum || part.Next != s.Next || part.End != s.End {
			t.Errorf("the whole is %s, not %s", told(part), told(s))
		}
	}
}

// P10.1: behind the greatest number the next one is 0, and a batch goes on with that, and with no other.
func TestReadTheGreatest(t *testing.T) {
	for _, sizes := range [][]int{{1}, {4}, {256}, {1, 1}, {2, 3}} {
		all := uint64(0)
		for _, n := range sizes {
			all += uint64(n)
		}
		s := scanOf(api.Head{Id: 2, First: mostSeq - all + 1, Anchor: digestOf(1)}, sizes...)
		if s.Next != 0 {
			t.Fatalf("the next number is %d", s.Next)
		}
		reads(t, "all numbers", bytesOf(s), s, api.OK)
		more := with(with(s, 2, 3), 256, 4)
		reads(t, "all numbers, and some of the first", bytesOf(more), more, api.OK)
		for _, first := range []uint64{1, 2, s.Head.First, 1 << 63, mostSeq} {
			reads(t, "all numbers, and others", bytesOf(s)+textOf(s.Sum, eventsOf(first, 1, 3)), s, api.OK)
		}
	}
	h := api.Head{First: mostSeq}
	reads(t, "a head of the greatest number", headBytes(h), begun(h), api.OK)
	reads(t, "a head of the greatest number, and 0", headBytes(h)+textOf(h.Anchor, eventsOf(0, 1, 1)), begun(h), api.OK)
}

// tail is bytes that do not go on from a scan.
type tail struct{ what, b string }

// noBatches are bytes that are no batch at all, of those of one that would go on.
func noBatches(next string) []tail {
	l := []tail{{"nothing", ""}, {"a sign", "z"}, {"a mark", "B"}, {"a mark and zeros", "B" + zeros(200)}, {"mixed bytes", mixed(5, 200)}}
	for _, n := range []int{1, 4, 5, 60, 64, 1000} {
		l = append(l, tail{"zeros", zeros(n)})
	}
	for n := 1; n < len(next); n++ {
		l = append(l, tail{"a batch cut short", next[:n]}, tail{"a batch cut short, and zeros", next[:n] + zeros(len(next)-n)})
	}
	for i := range len(next) {
		l = append(l, tail{"a batch with a byte changed", next[:i] + string([]byte{next[i] ^ 16}) + next[i+1:]})
	}
	body := next[5 : len(next)-4]
	return append(l,
		tail{"another mark", summed("C" + next[1:len(next)-4])},
		tail{"a batch with a byte too much", framed(body + "\x00")},
		tail{"a batch with a byte too few", framed(body[:len(body)-1])},
		tail{"a batch without events", framed(body[:32] + "\x00\x00")},
		tail{"a batch without a body", framed("")},
		tail{"a batch too long", summed("B\x00\x00\x40\x01" + zeros(16385))},
		tail{"a zero ahead of the batch", "\x00" + next},
	)
}

// strangers are right batches that do not go on from a scan: of another sum, or another number.
func strangers(s api.Scan) []tail {
	events := eventsOf(s.Next, 2, 5)
	var l []tail
	sums := []api.Digest{digestOf(77), sumOf(""), sumOf(bytesOf(s)), sumOf(string(s.Sum[:]))}
	if len(s.Texts) > 0 {
		sums = append(sums, s.Head.Anchor)
		l = append(l, tail{"the last batch again", s.Texts[len(s.Texts)-1]}, tail{"the first batch again", s.Texts[0]})
	}
	if (s.Sum != api.Digest{}) {
		sums = append(sums, api.Digest{})
	}
	for i := range 32 {
		other := s.Sum
		other[i] ^= 1 << (i % 8)
		sums = append(sums, other)
	}
	for _, sum := range sums {
		l = append(l, tail{"another sum", textOf(sum, events)})
	}
	for _, by := range []uint64{1, mostSeq, 2, 256, 1 << 32, 1 << 63, -s.Next, s.Head.First - s.Next} {
		if by != 0 {
			l = append(l, tail{"another number", textOf(s.Sum, eventsOf(s.Next+by, 1, 5))})
		}
	}
	return append(l, tail{"another head", headBytes(s.Head)}, tail{"another sum and number", textOf(digestOf(6), eventsOf(s.Next+1, 1, 5))})
}

// tails are bytes that do not go on from a scan, of all kinds; its next two numbers must not be the greatest ones.
func tails(s api.Scan) []tail {
	return append(noBatches(textOf(s.Sum, eventsOf(s.Next, 2, 5))), strangers(s)...)
}

// P10.1 and P10.4: bytes behind the last batch that are no batch, or none that goes on, change nothing; batches behind such bytes are not read.
func TestReadTails(t *testing.T) {
	for _, s := range []api.Scan{
		begun(api.Head{}), begun(api.Head{Id: 7, First: 300, Anchor: digestOf(4)}),
		scanOf(api.Head{Id: 7, First: 300, Anchor: digestOf(4)}, 1), scanOf(api.Head{Id: 7, First: 300, Anchor: digestOf(4)}, 3, 1, 2),
		scanOf(api.Head{Id: 1, First: mostSeq - 1, Anchor: digestOf(8)}, 2), scanOf(api.Head{Id: 1, First: mostSeq, Anchor: digestOf(8)}, 1, 1),
	} {
		b := bytesOf(s)
		next := with(s, 1, 9)
		two := with(next, 2, 10)
		reads(t, "a segment with two more", bytesOf(two), two, api.OK)
		for _, x := range tails(s) {
			reads(t, "a segment, and "+x.what, b+x.b, s, api.OK)
			if x.b == "" {
				continue
			}
			reads(t, "a segment, "+x.what+", and zeros", b+x.b+zeros(500), s, api.OK)
			// A batch cut short may be whole again by what stands behind it.
			behind := "\x00" + strings.Join(two.Texts[len(s.Texts):], "")
			reads(t, "a segment, "+x.what+", and batches", b+x.b+behind, s, api.OK)
		}
		for _, x := range strangers(s) {
			reads(t, "a segment, "+x.what+", and batches at once", b+x.b+strings.Join(two.Texts[len(s.Texts):], ""), s, api.OK)
		}
	}
}

// P10.1: a batch amid others with a byte changed, left out, or told twice: those ahead of it are read, and none behind.
func TestReadBent(t *testing.T) {
	s := scanOf(api.Head{Id: 7, First: 300, Anchor: digestOf(4)}, 2, 1, 3)
	b := bytesOf(s)
	for i := 64; i < len(b); i++ {
		ahead := begun(s.Head)
		for n := 0; ahead.End+len(s.Texts[n]) <= i; n++ {
			ahead = with(ahead, []int{2, 1, 3}[n], n+1)
		}
		for bit := range 8 {
			reads(t, "a byte changed", b[:i]+string([]byte{b[i] ^ 1<<bit})+b[i+1:], ahead, api.OK)
		}
		reads(t, "a byte left out", b[:i]+b[i+1:], ahead, api.OK)
		reads(t, "a segment cut short", b[:i], ahead, api.OK)
	}
	for i, text := range s.Texts {
		ahead := scanOf(s.Head, []int{2, 1, 3}[:i]...)
		others := slices.Delete(slices.Clone(s.Texts), i, i+1)
		reads(t, "a batch left out", headBytes(s.Head)+strings.Join(others, ""), ahead, api.OK)
		twice := slices.Insert(slices.Clone(s.Texts), i, text)
		reads(t, "a batch told twice", headBytes(s.Head)+strings.Join(twice, ""), scanOf(s.Head, []int{2, 1, 3}[:i+1]...), api.OK)
	}
}

// P10.1: a head with another anchor, or another number, ahead of the same batches: none goes on from it.
func TestReadOtherHead(t *testing.T) {
	s := scanOf(api.Head{Id: 7, First: 300, Anchor: digestOf(4)}, 2, 1)
	for bit := range 64 {
		h := s.Head
		h.First ^= 1 << bit
		reads(t, "another First", headBytes(h)+strings.Join(s.Texts, ""), begun(h), api.OK)
		h = s.Head
		h.Id ^= 1 << bit
		want := s
		want.Head = h
		reads(t, "another Id", bytesOf(want), want, api.OK)
	}
	for bit := range 256 {
		h := s.Head
		h.Anchor[bit/8] ^= 1 << (bit % 8)
		reads(t, "another Anchor", headBytes(h)+strings.Join(s.Texts, ""), begun(h), api.OK)
	}
}

// is tells of a call's error that is not the one it should be.
func is(t *testing.T, what string, e, want api.Errno) {
	t.Helper()
	if e != want {
		t.Errorf("%s: error %d, not %d", what, e, want)
	}
}

// diskOf is a disk of these bytes, of which nothing is pending, or the test ends.
func diskOf(t *testing.T, size int, image string) *sector.Disk {
	t.Helper()
	d, e := sector.New(len(image)/size, size)
	if e != api.OK {
		t.Fatalf("a disk of %d bytes: error %d", len(image), e)
	}
	for at := 0; at < len(image); at += size {
		is(t, "Write", d.Write(at/size, image[at:at+size]), api.OK)
	}
	is(t, "Flush", d.Flush(), api.OK)
	return d
}

// areaOf is an area, or the test ends.
func areaOf(t *testing.T, d *sector.Disk, from, many int) *area.Area {
	t.Helper()
	a, e := area.New(d, from, many)
	if e != api.OK {
		t.Fatalf("an area of the sectors from %d on, %d of them: error %d", from, many, e)
	}
	return a
}

// place is an area of a disk, with other sectors about it, and the disk's bytes at first.
type place struct {
	d     *sector.Disk
	a     *area.Area
	size  int
	from  int
	many  int
	image string
}

// placeOf is an area of many sectors of a new disk, behind one other sector and ahead of two, that has these bytes and zeros behind them.
func placeOf(t *testing.T, size, many int, b string) place {
	t.Helper()
	image := mixed(1, size) + b + zeros(many*size-len(b)) + mixed(2, 2*size)
	d := diskOf(t, size, image)
	return place{d, areaOf(t, d, 1, many), size, 1, many, image}
}

func (p place) len() int { return p.many * p.size }

// whole is the disk's bytes with the area's from a place on being others.
func (p place) whole(at int, b string) string {
	at += p.from * p.size
	return p.image[:at] + b + p.image[at+len(b):]
}

// holds tells of a disk on which other writes are pending, that has another image, or of which other bytes would be read.
func (p place) holds(t *testing.T, what string, pending int, image, now string) {
	t.Helper()
	if n := p.d.Pending(); n != pending {
		t.Errorf("%s: %d writes are pending, not %d", what, n, pending)
	}
	if p.d.Image() != image {
		t.Errorf("%s: what lasts is %q, not %q", what, p.d.Image(), image)
	}
	is(t, what+": Break", p.d.Break(5000), api.OK)
	var b string
	for at := range p.many + 3 {
		s, e := p.d.Read(at)
		is(t, what+": Read", e, api.OK)
		b += s
	}
	if b != now {
		t.Errorf("%s: what is read is %q, not %q", what, b, now)
	}
}

// all has of so many pending writes all kept.
func all(many int) []bool {
	return slices.Repeat([]bool{true}, many)
}

// takes tells of a call that takes more or fewer calls of the disk than it should.
func takes(t *testing.T, d *sector.Disk, what string, calls int, do func()) {
	t.Helper()
	is(t, "Break", d.Break(calls), api.OK)
	do()
	if _, e := d.Read(0); e != api.ErrDown {
		t.Errorf("%s: it takes fewer calls of the disk than %d", what, calls)
	}
	is(t, "Crash", d.Crash(all(d.Pending()), -1), api.OK)
}

// loads tells of an area that Load does not answer with this scan, or this error.
func loads(t *testing.T, what string, a *area.Area, want api.Scan, e api.Errno) {
	t.Helper()
	s, f := Load(a)
	isScan(t, "Load of "+what, s, f, want, e)
}

// shapes are sectors' sizes, and how many an area has.
var shapes = []struct{ size, many int }{{64, 1}, {64, 2}, {64, 5}, {65, 1}, {65, 3}, {100, 2}, {128, 1}, {256, 3}, {1024, 1}, {1024, 2}}

// A nil area, at each call: ErrNil is told ahead of what else is wrong.
func TestNil(t *testing.T) {
	loads(t, "a nil area", nil, api.Scan{}, api.ErrNil)
	for _, h := range someHeads() {
		is(t, "Begin of a nil area", Begin(nil, h), api.ErrNil)
	}
	for _, at := range []int{math.MinInt, -1, 0, 1, 64, math.MaxInt} {
		for _, text := range []string{"", "a", zeros(64)} {
			is(t, "Append to a nil area", Append(nil, at, text), api.ErrNil)
		}
		is(t, "Trim of a nil area", Trim(nil, at), api.ErrNil)
	}
}

// P10.2 and P10.3: an area that was not made by layer 8 is the one that has fewer bytes than a head: none.
func TestNoRoom(t *testing.T) {
	a := &area.Area{}
	loads(t, "an area of no bytes", a, api.Scan{}, api.ErrMore)
	is(t, "Begin of an area of no bytes", Begin(a, api.Head{Id: 7}), api.ErrRange)
	is(t, "Append to an area of no bytes", Append(a, 0, ""), api.OK)
	is(t, "Append to an area of no bytes", Append(a, 0, "a"), api.ErrFull)
	is(t, "Append to an area of no bytes", Append(a, 1, ""), api.ErrRange)
	is(t, "Append to an area of no bytes", Append(a, -1, ""), api.ErrRange)
	is(t, "Trim of an area of no bytes", Trim(a, 1), api.ErrRange)
	is(t, "Trim of an area of no bytes", Trim(a, -1), api.ErrRange)
	is(t, "Trim of an area of no bytes", Trim(a, 0), api.ErrNil)
}

// P10.2: an area that holds a segment, or nothing that is one; each of its sectors is read, and nothing is changed.
func TestLoad(t *testing.T) {
	s := scanOf(api.Head{Id: 7, First: 300, Anchor: digestOf(4)}, 2, 1, 3)
	for _, x := range shapes {
		p := placeOf(t, x.size, x.many, zeros(x.many*x.size))
		if len(bytesOf(s)) <= p.len() {
			p = placeOf(t, x.size, x.many, bytesOf(s))
			loads(t, "a segment", p.a, s, api.OK)
			takes(t, p.d, "Load", x.many, func() { loads(t, "a segment", p.a, s, api.OK) })
			p.holds(t, "Load", 0, p.image, p.image)
		}
		cut := bytesOf(s)[:min(len(bytesOf(s)), p.len())]
		want, _ := plainRead(cut)
		loads(t, "a segment that ends with the area", placeOf(t, x.size, x.many, cut).a, want, api.OK)
		loads(t, "a head", placeOf(t, x.size, x.many, headBytes(s.Head)).a, begun(s.Head), api.OK)
		loads(t, "zeros", placeOf(t, x.size, x.many, "").a, api.Scan{}, api.ErrForm)
		for _, y := range noHeads() {
			loads(t, "no head", placeOf(t, x.size, x.many, y.b).a, api.Scan{}, y.e)
		}
	}
}

// P10.2: a disk that goes down at each sector that Load reads; that is told ahead of what the bytes are.
func TestLoadDown(t *testing.T) {
	s := scanOf(api.Head{Id: 7, First: 300, Anchor: digestOf(4)}, 2)
	for _, b := range []string{bytesOf(s), "", mixed(3, 100)} {
		p := placeOf(t, 64, 4, b)
		for n := range 4 {
			is(t, "Break", p.d.Break(n), api.OK)
			loads(t, "an area whose disk goes down", p.a, api.Scan{}, api.ErrDown)
			is(t, "Crash", p.d.Crash(nil, -1), api.OK)
			p.holds(t, "Load, down", 0, p.image, p.image)
		}
		want, e := plainRead(b + zeros(256-len(b)))
		is(t, "Break", p.d.Break(4), api.OK)
		loads(t, "an area whose disk goes down behind it", p.a, want, e)
	}
}

// P10.2: what is pending is loaded as it was written last; what a crash does not keep, is not.
func TestLoadPending(t *testing.T) {
	s := scanOf(api.Head{Id: 7, First: 300, Anchor: digestOf(4)}, 2)
	other := scanOf(api.Head{Id: 8, First: 302, Anchor: digestOf(5)}, 1)
	p := placeOf(t, 64, 4, bytesOf(s))
	is(t, "Put", p.a.Put(0, bytesOf(other)+zeros(256-len(bytesOf(other)))), api.OK)
	loads(t, "a segment that is pending", p.a, other, api.OK)
	is(t, "Crash", p.d.Crash(nil, -1), api.OK)
	loads(t, "a segment behind a crash", p.a, s, api.OK)
}

// P10.2: areas with a head's bytes alone, and with more, over anything.
func TestBegin(t *testing.T) {
	old := scanOf(api.Head{Id: 3, First: 77, Anchor: digestOf(6)}, 1, 2, 1, 3, 1)
	for _, x := range shapes {
		n := x.size * x.many
		for _, was := range []string{"", mixed(7, n), (bytesOf(old) + strings.Repeat("z", n))[:n]} {
			for _, h := range someHeads() {
				p := placeOf(t, x.size, x.many, was)
				is(t, "Begin", Begin(p.a, h), api.OK)
				want := p.whole(0, headBytes(h)+zeros(n-64))
				p.holds(t, "Begin", 0, want, want)
				loads(t, "a segment that was begun", p.a, begun(h), api.OK)
			}
		}
	}
}

// P10.2: what is pending elsewhere lasts by Begin's Syncs, too.
func TestBeginFlushes(t *testing.T) {
	p := placeOf(t, 64, 2, "")
	b := mixed(9, 64)
	is(t, "Write", p.d.Write(0, b), api.OK)
	is(t, "Begin", Begin(p.a, api.Head{Id: 7}), api.OK)
	want := b + headBytes(api.Head{Id: 7}) + zeros(64) + mixed(2, 128)
	p.holds(t, "Begin", 0, want, want)
}

// P10.2: a disk that goes down at each step of Begin: what is pending then, and what lasts.
func TestBeginDown(t *testing.T) {
	h := api.Head{Id: 7, First: 300, Anchor: digestOf(4)}
	for _, x := range shapes {
		n := x.size * x.many
		// The head's sector is read where it has other bytes, too.
		part := min(x.size-64, 1)
		steps := x.many + 1 + part + 2
		for calls := range steps + 2 {
			p := placeOf(t, x.size, x.many, mixed(7, n))
			empty, full := p.whole(0, zeros(n)), p.whole(0, headBytes(h)+zeros(n-64))
			is(t, "Break", p.d.Break(calls), api.OK)
			e := Begin(p.a, h)
			switch {
			case calls < x.many:
				is(t, "Begin amid its zeros", e, api.ErrDown)
				p.holds(t, "Begin amid its zeros", calls, p.image, p.whole(0, zeros(calls*x.size)))
			case calls == x.many:
				is(t, "Begin ahead of its first Sync", e, api.ErrDown)
				p.holds(t, "Begin ahead of its first Sync", x.many, p.image, empty)
			case calls < steps-1:
				is(t, "Begin ahead of its head", e, api.ErrDown)
				p.holds(t, "Begin ahead of its head", 0, empty, empty)
			case calls == steps-1:
				is(t, "Begin ahead of its second Sync", e, api.ErrDown)
				p.holds(t, "Begin ahead of its second Sync", 1, empty, full)
			default:
				is(t, "Begin", e, api.OK)
				p.holds(t, "Begin", 0, full, full)
			}
		}
		p := placeOf(t, x.size, x.many, mixed(7, n))
		takes(t, p.d, "Begin", steps, func() { is(t, "Begin", Begin(p.a, h), api.OK) })
	}
}

// P10.2: whatever lasts of a Begin that was stopped, no batches of an older segment stand behind a new head.
func TestBeginCrash(t *testing.T) {
	// Both segments' batches are the same, so that the older ones would go on from the new head.
	old := scanOf(api.Head{Id: 3, First: 300, Anchor: digestOf(4)}, 1, 2, 1, 3, 1)
	h := api.Head{Id: 7, First: 300, Anchor: digestOf(4)}
	for calls := range 9 {
		for keep := range 64 {
			for _, torn := range []int{-1, 0, 1, 30, 63, 64, 99} {
				p := placeOf(t, 100, 5, bytesOf(old))
				is(t, "Break", p.d.Break(calls), api.OK)
				Begin(p.a, h)
				var l []bool
				for i := range 6 {
					l = append(l, keep>>i&1 == 1)
				}
				is(t, "Crash", p.d.Crash(l, torn), api.OK)
				s, e := Load(p.a)
				none := e == api.ErrForm || e == api.ErrSum
				if !none && (e != api.OK || s.Head != old.Head && !sameScan(s, begun(h))) {
					t.Errorf("Break(%d), Crash(%v, %d): error %d, %s", calls, l, torn, e, told(s))
				}
			}
		}
	}
}

// steps are the calls of the disk that a Put of n bytes at a place makes, in order: whether each one is a Write, or a Read ahead of one.
func (p place) steps(at, n int) []bool {
	var l []bool
	for i := range p.many {
		mine := 0
		for j := range p.size {
			if k := i*p.size + j; k >= at && k < at+n {
				mine++
			}
		}
		if mine > 0 && mine < p.size {
			l = append(l, false)
		}
		if mine > 0 {
			l = append(l, true)
		}
	}
	return l
}

// writes is how many of these calls are Writes.
func writes(l []bool) int {
	n := 0
	for _, is := range l {
		if is {
			n++
		}
	}
	return n
}

// P10.3: places below 0, at 0, at the end and above it, of texts of no byte up to one more than there is room for: what is put is pending, and nothing else is changed.
func TestAppend(t *testing.T) {
	for _, x := range []struct{ size, many int }{{64, 1}, {64, 3}, {65, 2}, {100, 2}} {
		p := placeOf(t, x.size, x.many, mixed(7, x.size*x.many))
		for at := -2; at <= p.len()+2; at++ {
			for n := range p.len() + 3 {
				if n > 3 && n%7 > 1 && at+n < p.len()-1 {
					continue
				}
				text := mixed(9, n)
				e := Append(p.a, at, text)
				switch {
				case at < 0 || at > p.len():
					is(t, "Append beyond the area", e, api.ErrRange)
				case at+n > p.len():
					is(t, "Append of too much", e, api.ErrFull)
				default:
					is(t, "Append", e, api.OK)
					p.holds(t, "Append", writes(p.steps(at, n)), p.image, p.whole(at, text))
				}
				if e != api.OK && (p.d.Pending() != 0 || p.d.Image() != p.image) {
					t.Errorf("Append(%d) of %d bytes has changed the disk", at, n)
				}
				is(t, "Crash", p.d.Crash(nil, -1), api.OK)
			}
		}
	}
}

// P10.3: places so great, or small, that they and a text's bytes together can't be told.
func TestAppendFarAway(t *testing.T) {
	p := placeOf(t, 64, 2, "")
	for _, at := range []int{math.MinInt, math.MinInt + 1, math.MinInt + 128, -1 << 32, -129, -128, -64, -1, 129, 192, 1 << 32, math.MaxInt - 128, math.MaxInt - 1, math.MaxInt} {
		for _, n := range []int{0, 1, 64, 127, 128, 129, 1000} {
			is(t, "Append far away", Append(p.a, at, zeros(n)), api.ErrRange)
		}
		is(t, "Trim far away", Trim(p.a, at), api.ErrRange)
	}
	for at := range 129 {
		is(t, "Append of far too much", Append(p.a, at, zeros(70000)), api.ErrFull)
	}
	p.holds(t, "Append", 0, p.image, p.image)
}

// P10.3: Append tells what is wrong with its place, and its text, ahead of a disk that is down; of no text it calls no disk.
func TestAppendOfDown(t *testing.T) {
	p := placeOf(t, 64, 2, "")
	is(t, "Break", p.d.Break(0), api.OK)
	for _, x := range []struct {
		at, n int
		e     api.Errno
	}{
		{-1, 0, api.ErrRange}, {-1, 200, api.ErrRange}, {129, 0, api.ErrRange}, {129, 1, api.ErrRange},
		{0, 129, api.ErrFull}, {1, 128, api.ErrFull}, {127, 2, api.ErrFull}, {128, 1, api.ErrFull},
		{0, 0, api.OK}, {64, 0, api.OK}, {127, 0, api.OK}, {128, 0, api.OK},
		{0, 1, api.ErrDown}, {0, 128, api.ErrDown}, {64, 64, api.ErrDown}, {127, 1, api.ErrDown},
	} {
		is(t, "Append, down", Append(p.a, x.at, mixed(3, x.n)), x.e)
	}
	p.holds(t, "Append, down", 0, p.image, p.image)
}

// P10.3: a disk that goes down amid an Append: the first sectors' bytes are pending, and no others.
func TestAppendDown(t *testing.T) {
	for _, x := range []struct{ at, n int }{{0, 1}, {63, 1}, {0, 64}, {63, 2}, {60, 130}, {64, 192}, {1, 254}, {0, 256}} {
		text := mixed(9, x.n)
		steps := placeOf(t, 64, 4, "").steps(x.at, x.n)
		for calls := range len(steps) {
			p := placeOf(t, 64, 4, mixed(7, 256))
			is(t, "Break", p.d.Break(calls), api.OK)
			is(t, "Append, down", Append(p.a, x.at, text), api.ErrDown)
			wrote := writes(steps[:calls])
			end := max(min(x.at+x.n, (x.at/64+wrote)*64), x.at)
			p.holds(t, "Append, down", wrote, p.image, p.whole(x.at, text[:end-x.at]))
		}
		p := placeOf(t, 64, 4, mixed(7, 256))
		takes(t, p.d, "Append", len(steps), func() { is(t, "Append", Append(p.a, x.at, text), api.OK) })
		p.holds(t, "Append", 0, p.whole(x.at, text), p.whole(x.at, text))
	}
}

// P10.3: Trim at all places, and beyond both ends: the bytes behind are 0 and last, with all that was pending.
func TestTrim(t *testing.T) {
	for _, x := range []struct{ size, many int }{{64, 1}, {64, 3}, {65, 2}, {256, 2}} {
		for at := -2; at <= x.size*x.many+2; at++ {
			p := placeOf(t, x.size, x.many, mixed(7, x.size*x.many))
			e := Trim(p.a, at)
			if at < 0 || at > p.len() {
				is(t, "Trim beyond the area", e, api.ErrRange)
				p.holds(t, "Trim beyond the area", 0, p.image, p.image)
				continue
			}
			is(t, "Trim", e, api.OK)
			want := p.whole(at, zeros(p.len()-at))
			p.holds(t, "Trim", 0, want, want)
			p = placeOf(t, x.size, x.many, mixed(7, p.len()))
			is(t, "Append", Append(p.a, 5, "abc"), api.OK)
			is(t, "Write", p.d.Write(0, mixed(8, x.size)), api.OK)
			is(t, "Trim", Trim(p.a, at), api.OK)
			want = mixed(8, x.size) + (mixed(7, 5) + "abc" + mixed(7, p.len())[8:])[:at] + zeros(p.len()-at) + mixed(2, 2*x.size)
			p.holds(t, "Trim of what is pending", 0, want, want)
		}
	}
}

// P10.3: a disk that goes down at each step of Trim; a place that is wrong is told ahead of it.
func TestTrimDown(t *testing.T) {
	for at := 0; at <= 256; at++ {
		steps := placeOf(t, 64, 4, "").steps(at, 256-at)
		for calls := range len(steps) + 1 {
			p := placeOf(t, 64, 4, mixed(7, 256))
			is(t, "Break", p.d.Break(calls), api.OK)
			is(t, "Trim, down", Trim(p.a, at), api.ErrDown)
			wrote := writes(steps[:calls])
			end := max(min(256, (at/64+wrote)*64), at)
			p.holds(t, "Trim, down", wrote, p.image, p.whole(at, zeros(end-at)))
		}
		p := placeOf(t, 64, 4, mixed(7, 256))
		takes(t, p.d, "Trim", len(steps)+1, func() { is(t, "Trim", Trim(p.a, at), api.OK) })
		want := p.whole(at, zeros(256-at))
		p.holds(t, "Trim", 0, want, want)
	}
	p := placeOf(t, 64, 2, mixed(7, 128))
	for _, at := range []int{math.MinInt, -1, 129, math.MaxInt} {
		is(t, "Break", p.d.Break(0), api.OK)
		is(t, "Trim beyond the area, down", Trim(p.a, at), api.ErrRange)
	}
	is(t, "Trim at the end, down", Trim(p.a, 128), api.ErrDown)
	p.holds(t, "Trim, down", 0, p.image, p.image)
}

// P10.3: Trim in the midst of a segment leaves the batches ahead of that place.
func TestTrimSegment(t *testing.T) {
	sizes := []int{2, 1, 3, 1}
	s := scanOf(api.Head{Id: 7, First: 300, Anchor: digestOf(4)}, sizes...)
	n := len(bytesOf(s))
	for at := range n + 1 {
		p := placeOf(t, 64, (n+127)/64, bytesOf(s))
		is(t, "Trim", Trim(p.a, at), api.OK)
		is(t, "Crash", p.d.Crash(nil, -1), api.OK)
		if at < 64 {
			want, e := plainRead(bytesOf(s)[:at] + zeros(200))
			loads(t, "a segment that lost its head's end", p.a, want, e)
			continue
		}
		many := 0
		for many < len(s.Texts) && scanOf(s.Head, sizes[:many+1]...).End <= at {
			many++
		}
		loads(t, "a segment that was trimmed", p.a, scanOf(s.Head, sizes[:many]...), api.OK)
	}
}

// linked appends one batch more of n events to what was loaded, as layer 9 links it, and tells the scan that should be read then.
func linked(t *testing.T, a *area.Area, s api.Scan, n, mark int) (api.Scan, api.Errno) {
	t.Helper()
	events := eventsOf(s.Next, n, mark)
	b, text, e := chain.Link(s.Sum, events)
	if e != api.OK || b.First != s.Next {
		t.Fatalf("Link of %d events from %d on: error %d", n, s.Next, e)
	}
	if e := Append(a, s.End, text); e != api.OK {
		return s, e
	}
	return with(s, n, mark), api.OK
}

// P10.4: a segment that was begun, and to which linked batches were appended as far as there is room, is read as these, over anything; its texts are checked by layer 9.
func TestGrow(t *testing.T) {
	old := scanOf(api.Head{Id: 3, First: 300, Anchor: digestOf(4)}, 1, 1, 1, 1, 2, 3, 1, 1, 5, 1)
	for _, x := range shapes {
		n := x.size * x.many
		for _, was := range []string{"", mixed(7, n), strings.Repeat("B", n), (bytesOf(old) + strings.Repeat("z", n))[:n]} {
			for _, h := range append(someHeads(), api.Head{Id: 5, First: mostSeq, Anchor: digestOf(1)}, api.Head{Id: 4, First: 300, Anchor: digestOf(4)}) {
				p := placeOf(t, x.size, x.many, was)
				is(t, "Begin", Begin(p.a, h), api.OK)
				s, e := begun(h), api.OK
				for i := 0; e == api.OK; i++ {
					loads(t, "a segment that grows", p.a, s, api.OK)
					s, e = linked(t, p.a, s, 1, i)
				}
				is(t, "Append of what there is no room for", e, api.ErrFull)
				if more := with(s, 1, len(s.Texts)); more.End <= p.len() {
					t.Errorf("of %d bytes just %d were filled, not %d", p.len(), s.End, more.End)
				}
				is(t, "Sync", p.a.Sync(), api.OK)
				is(t, "Crash", p.d.Crash(nil, -1), api.OK)
				loads(t, "a full segment", p.a, s, api.OK)
				checks(t, s)
			}
		}
	}
}

// checks tells of a scan whose texts layer 9 does not check, from its head to its events and sum.
func checks(t *testing.T, s api.Scan) {
	t.Helper()
	events, sum, e := chain.Check(s.Head.Anchor, s.Head.First, s.Texts)
	if e != api.OK || !slices.Equal(events, s.Events) || sum != s.Sum {
		t.Errorf("Check of %s: %d events, sum %x, error %d", told(s), len(events), sum[:4], e)
	}
	if s.Next != s.Head.First+uint64(len(s.Events)) || s.End != 64+len(strings.Join(s.Texts, "")) {
		t.Errorf("%s does not fit its lists", told(s))
	}
}

// P10.4: the texts of whatever is read are checked by layer 9.
func TestChecked(t *testing.T) {
	for _, s := range someScans() {
		got, _ := Read(bytesOf(s) + mixed(4, 100))
		checks(t, got)
		checks(t, s)
	}
}

// P10.3 and P10.4: a batch that fills an area to its last byte, and one that has a byte more than is left.
func TestJustFull(t *testing.T) {
	h := api.Head{Id: 1, First: 5, Anchor: digestOf(4)}
	for n := 1; ; n++ {
		s := scanOf(h, n)
		if s.End > api.MaxSector {
			break
		}
		p := placeOf(t, s.End, 1, mixed(7, s.End))
		is(t, "Begin", Begin(p.a, h), api.OK)
		is(t, "Append", Append(p.a, 64, s.Texts[0]), api.OK)
		want := p.whole(0, bytesOf(s))
		p.holds(t, "Append", 1, p.whole(0, headBytes(h)+zeros(s.End-64)), want)
		loads(t, "a segment that is just full", p.a, s, api.OK)
		is(t, "Append behind it", Append(p.a, s.End, ""), api.OK)
		is(t, "Append behind it", Append(p.a, s.End, "a"), api.ErrFull)
		is(t, "Append to what is full", Append(p.a, 65, s.Texts[0]), api.ErrFull)

		p = placeOf(t, s.End-1, 1, mixed(7, s.End-1))
		is(t, "Begin", Begin(p.a, h), api.OK)
		is(t, "Append of a byte too much", Append(p.a, 64, s.Texts[0]), api.ErrFull)
		want = p.whole(0, headBytes(h)+zeros(s.End-65))
		p.holds(t, "Append of a byte too much", 0, want, want)
		loads(t, "a segment without room", p.a, begun(h), api.OK)
	}
}

// P10.4: bytes behind a segment's last batch, of whatever kind that is no batch that goes on, change nothing.
func TestAreaTails(t *testing.T) {
	s := scanOf(api.Head{Id: 7, First: 300, Anchor: digestOf(4)}, 2, 1)
	for _, x := range tails(s) {
		if s.End+len(x.b) > 1024 {
			continue
		}
		p := placeOf(t, 512, 2, bytesOf(s))
		is(t, "Append", Append(p.a, s.End, x.b), api.OK)
		loads(t, "a segment, and "+x.what, p.a, s, api.OK)
		is(t, "Append", Append(p.a, s.End, x.b+zeros(1024-s.End-len(x.b))), api.OK)
		loads(t, "a segment, "+x.what+" and zeros", p.a, s, api.OK)
		// What is trimmed, and appended to anew, goes on.
		is(t, "Trim", Trim(p.a, s.End), api.OK)
		more, e := linked(t, p.a, s, 3, 6)
		is(t, "Append", e, api.OK)
		loads(t, "a segment that goes on", p.a, more, api.OK)
	}
}

// P10.4: other batches over older ones, which are longer: what is left of these is not read, also where just as many bytes are laid over them.
func TestOverOlder(t *testing.T) {
	h := api.Head{Id: 7, First: 300, Anchor: digestOf(4)}
	for _, sizes := range [][]int{{1, 1, 1}, {2, 2}, {5}, {1, 3, 1, 2}} {
		for keep := range len(sizes) {
			p := placeOf(t, 128, 6, bytesOf(scanOf(h, sizes...)))
			s := scanOf(h, sizes[:keep]...)
			for mark := 20; mark < 23; mark++ {
				for _, n := range []int{1, 2, 3} {
					more, e := linked(t, p.a, s, n, mark)
					is(t, "Append", e, api.OK)
					loads(t, "a segment over an older one", p.a, more, api.OK)
				}
			}
			again, e := linked(t, p.a, s, sizes[keep], keep+1)
			is(t, "Append", e, api.OK)
			got, e := Load(p.a)
			if e != api.OK || len(got.Texts) <= keep || !slices.Equal(got.Texts[:keep+1], again.Texts) {
				t.Errorf("the older batch again: error %d, %s, not %s", e, told(got), told(again))
			}
			checks(t, got)
		}
	}
}

// numbers tells numbers that seem to have no order, always the same.
type numbers uint32

func (n *numbers) below(most int) int {
	*n = *n*1664525 + 1013904223
	return int(uint32(*n)>>8) % most
}

// P10.4: whatever lasts of batches that were not flushed, those that were are read, and behind them some of the others, in order.
func TestGrowCrash(t *testing.T) {
	n := numbers(3)
	for range 1500 {
		p := placeOf(t, 64+n.below(70), 12, mixed(n.below(9), 768))
		h := api.Head{Id: uint64(n.below(9)), First: uint64(n.below(1000)), Anchor: digestOf(byte(n.below(256)))}
		is(t, "Begin", Begin(p.a, h), api.OK)
		lasts, s := begun(h), begun(h)
		for range 1 + n.below(8) {
			s, _ = linked(t, p.a, s, 1+n.below(3), n.below(9))
			if n.below(3) == 0 {
				is(t, "Sync", p.a.Sync(), api.OK)
				lasts = s
			}
		}
		keep := make([]bool, p.d.Pending())
		for i := range keep {
			keep[i] = n.below(4) > 0
		}
		is(t, "Crash", p.d.Crash(keep, n.below(140)-2), api.OK)
		got, e := Load(p.a)
		many := len(got.Texts)
		if e != api.OK || got.Head != h || many < len(lasts.Texts) || many > len(s.Texts) || !slices.Equal(got.Texts, s.Texts[:many]) {
			t.Fatalf("behind a crash: error %d, %s; %s lasts, %s was appended", e, told(got), told(lasts), told(s))
		}
		checks(t, got)
	}
}

// P10.1 and P10.4: long rows of batches, with some bytes changed, left out or put in.
func TestLongRows(t *testing.T) {
	n := numbers(5)
	for range 40 {
		s := begun(api.Head{Id: uint64(n.below(99)), First: uint64(n.below(1000)) - uint64(n.below(2))*500, Anchor: digestOf(byte(n.below(256)))})
		for range n.below(40) {
			// No batch has events on both sides of the greatest number.
			many := 1 + n.below(6)
			if left := mostSeq - s.Next; left < 256 {
				many = min(many, int(left)+1)
			}
			s = with(s, many, n.below(9))
		}
		b := bytesOf(s)
		reads(t, "a long row", b, s, api.OK)
		for range 60 {
			at, by := n.below(len(b)), string([]byte{byte(n.below(256))})
			other := []string{b[:at], b[:at] + by + b[at:], b[:at] + b[at+1:], b[:at] + by + b[at+1:], b[:at] + b[n.below(len(b)):]}[n.below(5)]
			want, e := plainRead(other)
			reads(t, "a long row that was changed", other, want, e)
			if e == api.OK && (len(want.Texts) > len(s.Texts) || !slices.Equal(want.Texts, s.Texts[:len(want.Texts)])) {
				t.Errorf("of a long row that was changed other batches are read: %s", told(want))
			}
			if e == api.OK {
				checks(t, want)
			}
		}
	}
}

// A segment of the most and greatest sectors.
func TestGreatest(t *testing.T) {
	d, e := sector.New(api.MaxSectors, api.MaxSector)
	is(t, "New", e, api.OK)
	a := areaOf(t, d, 0, api.MaxSectors)
	s := begun(api.Head{Id: 7, First: 1 << 40, Anchor: digestOf(4)})
	is(t, "Begin", Begin(a, s.Head), api.OK)
	for i := range 90 {
		s, e = linked(t, a, s, 256-i%7, i)
		is(t, "Append", e, api.OK)
	}
	is(t, "Sync", a.Sync(), api.OK)
	loads(t, "a great segment", a, s, api.OK)
	checks(t, s)
	is(t, "Append", Append(a, 4<<20, ""), api.OK)
	is(t, "Append", Append(a, 4<<20-1, "ab"), api.ErrFull)
	is(t, "Trim", Trim(a, s.End-1), api.OK)
	loads(t, "a great segment that was trimmed", a, scanWithout(s), api.OK)
}

// scanWithout is a scan without its last batch.
func scanWithout(s api.Scan) api.Scan {
	last := len(s.Texts) - 1
	b, n, _ := batch.Get(s.Texts[last])
	s.Texts, s.Events = s.Texts[:last], s.Events[:len(s.Events)-len(b.Events)]
	s.Sum, s.Next, s.End = b.Prev, b.First, s.End-n
	return s
}

// R2: what is read is not changed by what becomes of the bytes, of the area, or of what other calls told.
func TestKept(t *testing.T) {
	s := scanOf(api.Head{Id: 7, First: 300, Anchor: digestOf(4)}, 2, 1, 3)
	b := []byte(bytesOf(s))
	p := placeOf(t, 64, 8, string(b))
	text := string(b)
	one, _ := Read(text)
	two, _ := Load(p.a)
	for range 2 {
		again, _ := Read(text)
		for i := range again.Texts {
			again.Texts[i] = "other"
		}
		for i := range again.Events {
			again.Events[i] = api.Event{}
		}
		_ = append(again.Texts, "other")
		_ = append(again.Events, api.Event{Seq: 1})
	}
	clear(b)
	is(t, "Append", Append(p.a, 64, mixed(5, 300)), api.OK)
	is(t, "Trim", Trim(p.a, 100), api.OK)
	is(t, "Spoil", p.d.Spoil(70, 255), api.OK)
	is(t, "Begin", Begin(p.a, api.Head{}), api.OK)
	isScan(t, "Read, kept", one, api.OK, s, api.OK)
	isScan(t, "Load, kept", two, api.OK, s, api.OK)
	if text != bytesOf(s) {
		t.Errorf("the bytes that were handed in are %q now", text)
	}
	reads(t, "the bytes again", text, s, api.OK)
}

// R2: what is pending is not changed by what becomes of the text that was appended.
func TestAppendKeeps(t *testing.T) {
	p := placeOf(t, 64, 2, "")
	b := []byte(mixed(5, 100))
	is(t, "Append", Append(p.a, 10, string(b)), api.OK)
	clear(b)
	p.holds(t, "Append", 2, p.image, p.whole(10, mixed(5, 100)))
}

// What is kept of a scan does not hold the memory of all bytes that it was read from.
func TestTextsAlone(t *testing.T) {
	s := scanOf(api.Head{Id: 7, First: 300, Anchor: digestOf(4)}, 2, 1, 3)
	b := bytesOf(s)
	low := uintptr(unsafe.Pointer(unsafe.StringData(b)))
	got, _ := Read(b)
	for i, text := range got.Texts {
		if at := uintptr(unsafe.Pointer(unsafe.StringData(text))); at >= low && at < low+uintptr(len(b)) {
			t.Errorf("text %d is a piece of the bytes that were handed in", i)
		}
	}
}
