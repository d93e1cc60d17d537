package batch

import (
	"crypto/sha256"
	"encoding/binary"
	"hash/crc32"
	"math/big"
	"slices"
	"strings"
	"testing"

	"blackbox/api"
)

const mostSeq = 18446744073709551615

// bytes is a text of these bytes.
func bytes(l ...byte) string { return string(l) }

// number is what P3.1 says of Put, by the library.
func number(n uint64) string { return string(binary.AppendUvarint(nil, n)) }

// four is what P3.3 says of Fixed, of width 4, by the library.
func four(n uint32) string { return string(binary.BigEndian.AppendUint32(nil, n)) }

// text is what P3.2 says of Text.
func text(s string) string { return number(uint64(len(s))) + s }

// eventBytes is what P4.2 says of Put, of a right event.
func eventBytes(x api.Event) string {
	return bytes(byte(x.Kind)) + number(x.Seq) + number(uint64(x.Tick)) + number(uint64(x.Part+1)) + number(uint64(x.A)) + number(uint64(x.B))
}

// framedBody is a body with a mark, its length and the sum at the end, whatever it is.
func framedBody(body string) string {
	s := bytes(66) + four(uint32(len(body))) + body
	return s + four(crc32.ChecksumIEEE([]byte(s)))
}

// plainBody is the body that P5.1 says, of any batch whose events are right, with many as their number.
func plainBody(b api.Batch, many uint64) string {
	body := string(b.Prev[:]) + number(b.First) + number(many)
	for _, x := range b.Events {
		body += text(eventBytes(x))
	}
	return body
}

// plainPut is P5.1 of a right batch.
func plainPut(b api.Batch) string { return framedBody(plainBody(b, uint64(len(b.Events)))) }

// isEvent is what P4.1 says of Is.
func isEvent(x api.Event) bool {
	return x.Tick >= 0 && x.Tick <= 1099511627776 && x.Part >= -1 && x.Part <= 31 && x.Kind >= 1 && x.Kind <= 8 && x.A >= 0 && x.A <= 4294967295 && x.B >= 0 && x.B <= 4294967295
}

// plainIs is P5.1's Is, in numbers without bounds.
func plainIs(b api.Batch) bool {
	if len(b.Events) < 1 || len(b.Events) > 256 {
		return false
	}
	for i, x := range b.Events {
		want := new(big.Int).SetUint64(b.First)
		want.Add(want, big.NewInt(int64(i)))
		if !isEvent(x) || want.Cmp(new(big.Int).SetUint64(x.Seq)) != 0 {
			return false
		}
	}
	return true
}

// loose cuts numbers off the front of a body without asking whether they are right.
type loose struct {
	s   string
	bad bool
}

func (l *loose) number() uint64 {
	n, size := binary.Uvarint([]byte(l.s))
	if size <= 0 {
		l.bad, l.s = true, ""
		return 0
	}
	l.s = l.s[size:]
	return n
}

// looseBatch is the one batch of which this may be the body, whether it is or not.
func looseBatch(body string) (api.Batch, bool) {
	if len(body) < 32 {
		return api.Batch{}, false
	}
	b := api.Batch{Prev: api.Digest([]byte(body[:32]))}
	l := loose{s: body[32:]}
	b.First = l.number()
	many := l.number()
	for range min(many, 300) {
		l.number()
		if l.s == "" {
			return api.Batch{}, false
		}
		x := api.Event{Kind: int(l.s[0])}
		l.s = l.s[1:]
		x.Seq = l.number()
		x.Tick = int(l.number())
		x.Part = int(l.number()) - 1
		x.A = int(l.number())
		x.B = int(l.number())
		b.Events = append(b.Events, x)
	}
	return b, !l.bad
}

// plainGet is P5.2: what may be a batch is one, if these are its bytes.
func plainGet(s string) (api.Batch, int, api.Errno) {
	if len(s) == 0 {
		return api.Batch{}, 0, api.ErrMore
	}
	if s[0] != 66 {
		return api.Batch{}, 0, api.ErrForm
	}
	if len(s) < 5 {
		return api.Batch{}, 0, api.ErrMore
	}
	length := int64(binary.BigEndian.Uint32([]byte(s[1:5])))
	if length > 16384 {
		return api.Batch{}, 0, api.ErrLimit
	}
	if int64(len(s)) < 5+length+4 {
		return api.Batch{}, 0, api.ErrMore
	}
	s = s[:5+length+4]
	ahead, sum := s[:5+length], s[5+length:]
	if sum != four(crc32.ChecksumIEEE([]byte(ahead))) {
		return api.Batch{}, 0, api.ErrSum
	}
	b, is := looseBatch(ahead[5:])
	if !is || !plainIs(b) || plainPut(b) != s {
		return api.Batch{}, 0, api.ErrForm
	}
	return b, len(s), api.OK
}

// digestOf is 32 bytes that differ, from c on.
func digestOf(c byte) api.Digest {
	var d api.Digest
	for i := range d {
		d[i] = c + byte(i)*7
	}
	return d
}

// rowOf is a batch of n events, the first one of the number first, each of one more than that ahead, as numbers of 64 bits.
func rowOf(first uint64, n int) api.Batch {
	b := api.Batch{First: first, Prev: digestOf(byte(first))}
	for i := range n {
		b.Events = append(b.Events, api.Event{Seq: first + uint64(i), Tick: i * i, Part: i%33 - 1, Kind: i%8 + 1, A: i * 77, B: 300 - i})
	}
	return b
}

// great is a batch of n events whose bytes are as many as may be, up to the greatest number.
func great(n int) api.Batch {
	b := api.Batch{First: mostSeq - uint64(n) + 1, Prev: digestOf(200)}
	for i := range n {
		b.Events = append(b.Events, api.Event{Seq: b.First + uint64(i), Tick: 1099511627776, Part: 31, Kind: 8, A: 4294967295, B: 4294967295})
	}
	return b
}

func rightBatches() []api.Batch {
	l := []api.Batch{great(1), great(2), great(255), great(256), {Events: []api.Event{{Part: -1, Kind: 1}}}}
	for _, first := range []uint64{0, 1, 127, 128, 300, 1 << 32, 1<<63 - 1, 1 << 63, mostSeq - 300} {
		for _, n := range []int{1, 2, 3, 127, 128, 129, 255, 256} {
			l = append(l, rowOf(first, n))
		}
	}
	for n := 1; n < 6; n++ {
		l = append(l, rowOf(mostSeq-uint64(n)+1, n))
	}
	l = append(l, rowOf(mostSeq-255, 256))
	return l
}

// with is b with another event at a place.
func with(b api.Batch, at int, x api.Event) api.Batch {
	b.Events = slices.Clone(b.Events)
	b.Events[at] = x
	return b
}

// withFirst is b with another First.
func withFirst(b api.Batch, first uint64) api.Batch {
	b.First = first
	return b
}

// without is b without the event at a place.
func without(b api.Batch, at int) api.Batch {
	b.Events = slices.Delete(slices.Clone(b.Events), at, at+1)
	return b
}

// wrongEvents are like x, but for one field that is not right.
func wrongEvents(x api.Event) []api.Event {
	l := make([]api.Event, 10)
	for i := range l {
		l[i] = x
	}
	l[0].Kind = 0
	l[1].Kind = 9
	l[2].Tick = -1
	l[3].Tick = 1099511627777
	l[4].Part = -2
	l[5].Part = 32
	l[6].A = -1
	l[7].A = 4294967296
	l[8].B = -1
	l[9].B = 4294967296
	return l
}

// wrongBatches are those of none and of too many events, of another First, of events that are not right, or don't run on.
func wrongBatches() []api.Batch {
	l := []api.Batch{{}, {First: 7, Prev: digestOf(1)}, {Events: []api.Event{}}, rowOf(5, 257), rowOf(0, 257), rowOf(5, 258), rowOf(5, 512), rowOf(5, 3000), great(257)}
	for _, first := range []uint64{1, 5, 300, 1 << 63, mostSeq - 9} {
		for _, n := range []int{1, 2, 7} {
			b := rowOf(first, n)
			for _, by := range []uint64{1, 2, 256, 1 << 32, 1 << 63, mostSeq, mostSeq - 1} {
				l = append(l, withFirst(b, first+by))
			}
			l = append(l, withFirst(b, 0))
			for at := range n {
				for _, x := range wrongEvents(b.Events[at]) {
					l = append(l, with(b, at, x))
				}
				x := b.Events[at]
				for _, by := range []uint64{1, 2, 1 << 32, 1 << 63, mostSeq, mostSeq - 1} {
					x.Seq = b.Events[at].Seq + by
					l = append(l, with(b, at, x))
				}
				if n > 1 && at < n-1 {
					l = append(l, without(b, at))
				}
			}
		}
	}
	for n := 2; n < 6; n++ {
		l = append(l, rowOf(mostSeq-uint64(n)+2, n))
	}
	l = append(l, rowOf(mostSeq-254, 256), rowOf(mostSeq, 2), rowOf(mostSeq, 256))
	return l
}

// equal tells whether both batches are the same.
func equal(a, b api.Batch) bool {
	return a.First == b.First && a.Prev == b.Prev && slices.Equal(a.Events, b.Events)
}

// short tells of a batch in few words.
func short(b api.Batch) string {
	return "First " + big.NewInt(0).SetUint64(b.First).String() + ", " + big.NewInt(int64(len(b.Events))).String() + " events"
}

// got tells of a text of which Get does not answer what it should.
func got(t *testing.T, s string, b api.Batch, n int, e api.Errno) {
	t.Helper()
	a, m, f := Get(s)
	if !equal(a, b) || m != n || f != e {
		t.Errorf("Get of %d bytes, %q: %s, %d bytes, error %d, not %s, %d bytes, error %d", len(s), s[:min(len(s), 60)], short(a), m, f, short(b), n, e)
	}
}

// refused tells of a text that Get does not refuse with e and nothing else.
func refused(t *testing.T, s string, e api.Errno) {
	t.Helper()
	got(t, s, api.Batch{}, 0, e)
}

// same tells of a text of which Get answers another thing than the words of the promise.
func same(t *testing.T, s string) {
	t.Helper()
	b, n, e := plainGet(s)
	got(t, s, b, n, e)
}

// P5.1: batches of one event, of 256, and between, up to the greatest number.
func TestIsRight(t *testing.T) {
	for _, b := range rightBatches() {
		if !Is(b) || !plainIs(b) {
			t.Errorf("%s: not right", short(b))
		}
	}
}

// P5.1: batches of none and of 257 events, of another First, of an event that is not right, or with one left out.
func TestIsWrong(t *testing.T) {
	for _, b := range wrongBatches() {
		if Is(b) || plainIs(b) {
			t.Errorf("%s: right", short(b))
		}
	}
}

// P5.1: each number of events about both ends.
func TestIsMany(t *testing.T) {
	for n := range 600 {
		if is := Is(rowOf(9, n)); is != (n >= 1 && n <= 256) {
			t.Errorf("%d events: %v", n, is)
		}
	}
}

// P5.1: bytes that were laid by hand, part by part.
func TestPutByHand(t *testing.T) {
	prev := "\x00\x01\x02\x03\x04\x05\x06\x07\x08\x09\x0a\x0b\x0c\x0d\x0e\x0f\xf0\xf1\xf2\xf3\xf4\xf5\xf6\xf7\xf8\xf9\xfa\xfb\xfc\xfd\xfe\xff"
	b := api.Batch{First: 300, Prev: api.Digest([]byte(prev)), Events: []api.Event{
		{Seq: 300, Tick: 5, Part: -1, Kind: 2, A: 1, B: 0},
		{Seq: 301, Tick: 128, Part: 31, Kind: 8, A: 2, B: 3},
	}}
	ahead := "B" + "\x00\x00\x00\x34" + prev + "\xac\x02" + "\x02" + "\x07\x02\xac\x02\x05\x00\x01\x00" + "\x08\x08\xad\x02\x80\x01\x20\x02\x03"
	sum := "\xb1\x37\x68\x82"
	if s, e := Put(b); s != ahead+sum || e != api.OK {
		t.Errorf("%q, error %d, not %q", s, e, ahead+sum)
	}
	got(t, ahead+sum, b, 61, api.OK)
}

// P5.1: the least batch, whose sum was worked out elsewhere.
func TestPutLeast(t *testing.T) {
	s, e := Put(api.Batch{Events: []api.Event{{Part: -1, Kind: 1}}})
	want := "B\x00\x00\x00\x29" + strings.Repeat("\x00", 33) + "\x01\x06\x01\x00\x00\x00\x00\x00"
	if sum := "\x3e\xe1\x31\x5a"; s != want+sum || e != api.OK {
		t.Errorf("%q, error %d", s, e)
	}
}

// P5.1: all right batches, against the words of the promise.
func TestPut(t *testing.T) {
	for _, b := range rightBatches() {
		if s, e := Put(b); s != plainPut(b) || e != api.OK {
			t.Errorf("Put of %s: %q, error %d", short(b), s, e)
		}
	}
}

// P5.1: what is not right is not put.
func TestPutWrong(t *testing.T) {
	for _, b := range wrongBatches() {
		if s, e := Put(b); s != "" || e != api.ErrArg {
			t.Errorf("Put of %s: %q, error %d", short(b), s, e)
		}
	}
}

// P5.2: no bytes, a first byte that is not 66, and fewer than five bytes.
func TestGetLittle(t *testing.T) {
	refused(t, "", api.ErrMore)
	for _, behind := range []string{"", "\x00", "\x00\x00\x00", "\xff\xff\xff\xff", plainPut(rowOf(3, 2))[1:]} {
		for c := range 256 {
			if c != 66 {
				refused(t, bytes(byte(c))+behind, api.ErrForm)
			}
		}
	}
	for _, s := range []string{"B", "B\x00", "B\xff", "B\x00\x00\x00", "B\xff\xff\xff", "B\x00\x00\x01", "BBBB"} {
		refused(t, s, api.ErrMore)
	}
}

// P5.2: a length above 16384 is told ahead of how many bytes are left, of the sum and of the form.
func TestGetLength(t *testing.T) {
	for _, length := range []uint32{16385, 16386, 16640, 1 << 15, 1 << 16, 1<<16 + 41, 1 << 24, 1<<24 + 41, 1 << 31, 1<<31 + 41, 1<<32 - 1, 1<<32 - 4, 1<<32 - 5} {
		refused(t, "B"+four(length), api.ErrLimit)
		refused(t, "B"+four(length)+"\x00", api.ErrLimit)
		refused(t, "B"+four(length)+strings.Repeat("\x00", 20000), api.ErrLimit)
		refused(t, "B"+four(length)+plainPut(rowOf(3, 2))[5:], api.ErrLimit)
	}
	for _, n := range []int{16385, 20000, 65536} {
		refused(t, framedBody(strings.Repeat("\x01", n)), api.ErrLimit)
	}
	for _, length := range []uint32{0, 1, 255, 256, 16383, 16384} {
		refused(t, "B"+four(length), api.ErrMore)
		body := strings.Repeat("\x00", int(length))
		refused(t, "B"+four(length)+body, api.ErrMore)
		refused(t, "B"+four(length)+body+"\x00\x00\x00", api.ErrMore)
		refused(t, "B"+four(length)+body+"\x12\x34\x56\x78", api.ErrSum)
		refused(t, framedBody(body), api.ErrForm)
	}
}

// P5.2: fewer bytes left than the length and 4 more, ahead of a sum that is another one.
func TestGetFewLeft(t *testing.T) {
	s := plainPut(rowOf(70, 5))
	for i := 5; i < len(s); i++ {
		refused(t, s[:i], api.ErrMore)
		refused(t, s[:5]+strings.Repeat("\xee", i-5), api.ErrMore)
	}
	refused(t, s[:5]+strings.Repeat("\xee", len(s)-5), api.ErrSum)
}

// P5.2: a sum that is another one, with a body that is right and with one that is not.
func TestGetSum(t *testing.T) {
	for _, s := range []string{plainPut(rowOf(70, 5)), framedBody(""), framedBody("a"), framedBody(strings.Repeat("\x80", 99))} {
		for i := len(s) - 4; i < len(s); i++ {
			for c := range 256 {
				if byte(c) != s[i] {
					refused(t, s[:i]+bytes(byte(c))+s[i+1:], api.ErrSum)
				}
			}
		}
	}
	s := plainPut(rowOf(70, 5))
	body := s[5 : len(s)-4]
	for _, sum := range []uint32{crc32.ChecksumIEEE([]byte(body)), crc32.ChecksumIEEE([]byte(s)), crc32.ChecksumIEEE([]byte(s[1 : len(s)-4])), ^crc32.ChecksumIEEE([]byte(s[:len(s)-4])), 0, 1<<32 - 1} {
		refused(t, s[:len(s)-4]+four(sum), api.ErrSum)
	}
}

// P5.2: bytes that are left behind the last event, with a right sum.
func TestGetLeft(t *testing.T) {
	for _, b := range []api.Batch{rowOf(0, 1), rowOf(70, 5), great(256)} {
		body := plainBody(b, uint64(len(b.Events)))
		for _, left := range []string{"\x00", "\x01", "\xff", "left", text(eventBytes(b.Events[0])), body} {
			refused(t, framedBody(body+left), api.ErrForm)
		}
	}
}

// P5.2: a body that is cut short at each place, with a right sum.
func TestGetCutShort(t *testing.T) {
	for _, b := range []api.Batch{rowOf(0, 1), rowOf(300, 5), great(3)} {
		body := plainBody(b, uint64(len(b.Events)))
		for i := range len(body) {
			refused(t, framedBody(body[:i]), api.ErrForm)
		}
	}
}

// P5.2: a number of events that is 0, above 256, or not that of the events, with a right sum.
func TestGetMany(t *testing.T) {
	for _, b := range []api.Batch{{First: 9}, rowOf(9, 1), rowOf(9, 2), rowOf(9, 256), rowOf(9, 257), rowOf(9, 400)} {
		for _, many := range []uint64{0, 1, 2, 3, 255, 256, 257, 258, 400, 512, 1<<32 + 1, 1<<32 + 2, 1<<63 + 2, 1 << 63, mostSeq} {
			s := framedBody(plainBody(b, many))
			if many == uint64(len(b.Events)) && many >= 1 && many <= 256 {
				got(t, s, b, len(s), api.OK)
			} else {
				refused(t, s, api.ErrForm)
			}
		}
	}
}

// P5.2: numbers and texts that have more bytes than they need, with a right sum.
func TestGetLonger(t *testing.T) {
	b := api.Batch{First: 5, Prev: digestOf(3), Events: []api.Event{{Seq: 5, Kind: 1}}}
	prev, x := string(b.Prev[:]), eventBytes(b.Events[0])
	s := framedBody(prev + "\x05" + "\x01" + "\x06" + x)
	got(t, s, b, len(s), api.OK)
	for _, body := range []string{
		prev + "\x85\x00" + "\x01" + "\x06" + x,
		prev + "\x05" + "\x81\x00" + "\x06" + x,
		prev + "\x05" + "\x01" + "\x86\x00" + x,
		prev + "\x05" + "\x01" + "\x06" + x[:1] + "\x85\x00" + x[2:],
		prev + "\x05" + "\x01" + "\x07" + x[:1] + "\x85\x00" + x[2:],
		prev + "\xff\xff\xff\xff\xff\xff\xff\xff\xff\x02" + "\x01" + "\x06" + x,
		prev + "\x05" + "\x01" + "\xff\xff\xff\xff\xff\xff\xff\xff\xff\x02" + x,
	} {
		refused(t, framedBody(body), api.ErrForm)
	}
}

// P5.2: a text that is no event, at each place, with a right sum.
func TestGetNoEvent(t *testing.T) {
	b := rowOf(40, 4)
	front := string(b.Prev[:]) + number(40) + number(4)
	for at := range b.Events {
		right := eventBytes(b.Events[at])
		for _, wrong := range []string{"", "\x00", "\x01", "\x00" + right[1:], "\x09" + right[1:], right + "\x00", right[:len(right)-1], right[1:], strings.Repeat("\xff", 30), strings.Repeat("a", 300)} {
			body := front
			for i, x := range b.Events {
				s := eventBytes(x)
				if i == at {
					s = wrong
				}
				body += text(s)
			}
			refused(t, framedBody(body), api.ErrForm)
		}
	}
}

// P5.2: events that are not right, don't run on, or not from First on, with a right sum.
func TestGetNotRight(t *testing.T) {
	for _, b := range wrongBatches() {
		body := plainBody(b, uint64(len(b.Events)))
		if len(body) > 16384 {
			refused(t, framedBody(body), api.ErrLimit)
		} else {
			refused(t, framedBody(body), api.ErrForm)
		}
	}
}

// P5.2: what stands behind a batch does not matter, and how many bytes it has is told.
func TestGetBehind(t *testing.T) {
	for _, b := range rightBatches() {
		s := plainPut(b)
		for _, behind := range []string{"", "\x00", "B", "\xff\xff\xff\xff\xff", strings.Repeat("\x01", 20000), s} {
			got(t, s+behind, b, len(s), api.OK)
		}
	}
}

// changes are all texts in which one byte of s is another one, is told twice, or is left out.
func changes(s string) []string {
	var l []string
	for i := range len(s) {
		for c := range 256 {
			l = append(l, s[:i]+bytes(byte(c))+s[i+1:])
		}
		l = append(l, s[:i]+s[i+1:], s[:i]+s[i:i+1]+s[i:])
	}
	return l
}

// P5.2: bodies with a byte that was changed, with the sum as it was, and with a right one, against the words of the promise.
func TestGet(t *testing.T) {
	batches := []api.Batch{rowOf(0, 1), rowOf(126, 4), great(2), {First: 1 << 40, Prev: digestOf(9), Events: []api.Event{{Seq: 1 << 40, Tick: 1 << 20, Part: 7, Kind: 3, A: 1 << 31, B: 1 << 14}}}}
	for _, b := range batches {
		s := plainPut(b)
		for _, x := range changes(s) {
			same(t, x)
			same(t, x+s)
		}
		for _, body := range changes(s[5 : len(s)-4]) {
			same(t, framedBody(body))
		}
	}
}

// P5.3: the sum of a right batch's bytes.
func TestSum(t *testing.T) {
	for _, b := range rightBatches() {
		if d, e := Sum(b); d != api.Digest(sha256.Sum256([]byte(plainPut(b)))) || e != api.OK {
			t.Errorf("Sum of %s: %x, error %d", short(b), d, e)
		}
	}
}

// P5.3: Put's error of what is not right.
func TestSumWrong(t *testing.T) {
	for _, b := range wrongBatches() {
		if d, e := Sum(b); d != (api.Digest{}) || e != api.ErrArg {
			t.Errorf("Sum of %s: %x, error %d", short(b), d, e)
		}
	}
}

// P5.3: First and the number of events, together, less 1, as numbers of 64 bits; of any batch.
func TestLast(t *testing.T) {
	all := new(big.Int).Lsh(big.NewInt(1), 64)
	for _, first := range []uint64{0, 1, 300, 1<<32 - 1, 1<<63 - 1, mostSeq - 1, mostSeq} {
		for _, n := range []int{0, 1, 2, 3, 255, 256, 257, 1000} {
			want := new(big.Int).SetUint64(first)
			want.Add(want, big.NewInt(int64(n)-1)).Mod(want, all)
			b := rowOf(first, n)
			if last := Last(b); last != want.Uint64() {
				t.Errorf("Last of %s: %d, not %d", short(b), last, want)
			}
			b.Events = make([]api.Event, n)
			if last := Last(b); last != want.Uint64() {
				t.Errorf("Last of %s that are not right: %d, not %d", short(b), last, want)
			}
		}
	}
	for _, b := range rightBatches() {
		if last := Last(b); last != b.Events[len(b.Events)-1].Seq {
			t.Errorf("Last of %s: %d", short(b), last)
		}
	}
}

// P5.4: what is put is got again, whatever stands behind it.
func TestPutIsGot(t *testing.T) {
	for _, b := range rightBatches() {
		s, e := Put(b)
		if e != api.OK {
			t.Errorf("Put of %s: error %d", short(b), e)
		}
		got(t, s, b, len(s), api.OK)
		got(t, s+"behind", b, len(s), api.OK)
	}
}

// P5.4: each beginning of a batch's bytes tells ErrMore.
func TestBeginnings(t *testing.T) {
	for _, b := range []api.Batch{rowOf(0, 1), rowOf(300, 7), great(5), great(256)} {
		s, _ := Put(b)
		for i := range len(s) {
			refused(t, s[:i], api.ErrMore)
		}
	}
}

// P5.4: some of four bytes changed, one behind the other, at each place of the body, and at the last four.
func TestFourChanged(t *testing.T) {
	for _, b := range []api.Batch{rowOf(0, 1), rowOf(300, 7), great(3)} {
		s, _ := Put(b)
		for at := 5; at+4 <= len(s); at++ {
			if at+4 > len(s)-4 && at != len(s)-4 {
				continue
			}
			for _, by := range fourBytes(at) {
				changed := []byte(s)
				for i, c := range by {
					changed[at+i] ^= c
				}
				refused(t, string(changed), api.ErrSum)
				refused(t, string(changed)+s, api.ErrSum)
			}
		}
	}
}

// fourBytes are ways to change some of four bytes, no two places' the same.
func fourBytes(at int) [][4]byte {
	l := [][4]byte{{1}, {0, 128}, {255, 255, 255, 255}, {0, 0, 0, 1}, {0, 0, 0, 128}, {237, 184, 131, 32}, {131, 32, 237, 184}, {4, 193, 29, 183}}
	n := uint32(at)*2654435761 + 1
	for range 60 {
		n = n*1664525 + 1013904223
		for mask := 1; mask < 16; mask++ {
			var by [4]byte
			for i := range by {
				if mask>>i&1 == 1 {
					by[i] = byte(n>>(8*i)) | 1<<(mask%8)
				}
			}
			l = append(l, by)
		}
	}
	return l
}

// P5.4: what is got is what would be put.
func TestGotIsPut(t *testing.T) {
	many := 0
	for _, b := range []api.Batch{rowOf(0, 1), rowOf(126, 4), great(2)} {
		s, _ := Put(b)
		for _, body := range changes(s[5 : len(s)-4]) {
			x := framedBody(body)
			a, n, e := Get(x + "behind")
			if e != api.OK {
				continue
			}
			many++
			if again, e := Put(a); again != x || n != len(x) || e != api.OK {
				t.Errorf("Get(%q): that is %q, error %d", x, again, e)
			}
		}
	}
	if many < 1000 {
		t.Errorf("%d texts alone were got", many)
	}
}

// R1: the greatest batch's body is far below the limit, so that all that is right can be put and got.
func TestGreatest(t *testing.T) {
	s, e := Put(great(256))
	if len(s) != 5+32+10+2+256*29+4 || e != api.OK {
		t.Errorf("%d bytes, error %d", len(s), e)
	}
}

// R2: what is handed in stays as it is, and what came out is not changed by what comes out later.
func TestNothingChanges(t *testing.T) {
	b := rowOf(300, 9)
	was := slices.Clone(b.Events)
	s, _ := Put(b)
	first, n, _ := Get(s)
	kept := slices.Clone(first.Events)
	Is(b)
	Sum(b)
	Last(b)
	for _, other := range append(wrongBatches(), great(9)) {
		x, _ := Put(other)
		Get(x)
	}
	Get(framedBody(plainBody(rowOf(1, 9), 8)))
	if !slices.Equal(b.Events, was) || !slices.Equal(first.Events, kept) {
		t.Errorf("events have changed")
	}
	if again, e := Put(b); again != s || e != api.OK {
		t.Errorf("put again: %q, error %d", again, e)
	}
	got(t, s, b, n, api.OK)
	first.Events[0].Seq = 7
	got(t, s, b, n, api.OK)
}

// P5.1: what stands behind a list in its memory is not asked.
func TestPiece(t *testing.T) {
	b := rowOf(4, 9)
	b.Events[3].Kind = 0
	b.Events = b.Events[:3]
	s, e := Put(b)
	if s != plainPut(rowOf(4, 3)) || e != api.OK || !Is(b) {
		t.Errorf("%q, error %d", s, e)
	}
}
