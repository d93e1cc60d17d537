package header

import (
	"encoding/binary"
	"hash/crc32"
	"strings"
	"testing"

	"blackbox/api"
)

const most = 18446744073709551615

// eight is what P3.3 says of Fixed, of width 8, by the library.
func eight(n uint64) string { return string(binary.BigEndian.AppendUint64(nil, n)) }

// summed60 is 60 bytes, whatever they are, with the sum that belongs behind them, by the library.
func summed60(s string) string {
	return s + string(binary.BigEndian.AppendUint32(nil, crc32.ChecksumIEEE([]byte(s))))
}

// plainHead is P6.1's PutHead.
func plainHead(h api.Head) string {
	return summed60("H" + eight(h.Id) + eight(h.First) + string(h.Anchor[:]) + "\x00\x00\x00\x00\x00\x00\x00\x00\x00\x00\x00")
}

// plainSuper is P6.1's PutSuper.
func plainSuper(x api.Super) string {
	s := "S" + eight(x.Epoch) + eight(x.Tail) + eight(x.First) + eight(x.Id) + eight(x.End) + eight(x.Next) + string(x.Anchor[:]) + string(x.Sum[:])
	return s + s
}

// at8 is the number that eight bytes tell, from a place on.
func at8(s string, at int) uint64 { return binary.BigEndian.Uint64([]byte(s[at : at+8])) }

// at32 is the sum whose bytes stand from a place on.
func at32(s string, at int) api.Digest { return api.Digest([]byte(s[at : at+32])) }

// plainGetHead is P6.2's GetHead.
func plainGetHead(s string) (api.Head, api.Errno) {
	if len(s) < 64 {
		return api.Head{}, api.ErrMore
	}
	s = s[:64]
	if s[0] != 72 {
		return api.Head{}, api.ErrForm
	}
	if s != summed60(s[:60]) {
		return api.Head{}, api.ErrSum
	}
	for i := 49; i < 60; i++ {
		if s[i] != 0 {
			return api.Head{}, api.ErrForm
		}
	}
	return api.Head{Id: at8(s, 1), First: at8(s, 9), Anchor: at32(s, 17)}, api.OK
}

// plainGetSuper is P6.2's GetSuper.
func plainGetSuper(s string) (api.Super, api.Errno) {
	if len(s) < 226 {
		return api.Super{}, api.ErrMore
	}
	if s[0] != 83 {
		return api.Super{}, api.ErrForm
	}
	for i := range 113 {
		if s[i] != s[113+i] {
			return api.Super{}, api.ErrSum
		}
	}
	return api.Super{Epoch: at8(s, 1), Tail: at8(s, 9), First: at8(s, 17), Id: at8(s, 25), End: at8(s, 33), Next: at8(s, 41), Anchor: at32(s, 49), Sum: at32(s, 81)}, api.OK
}

// digestOf is 32 bytes that differ, from c on.
func digestOf(c byte) api.Digest {
	var d api.Digest
	for i := range d {
		d[i] = c + byte(i)*7
	}
	return d
}

// digestOn is a sum with one byte alone that is not 0.
func digestOn(at int, c byte) api.Digest {
	var d api.Digest
	d[at] = c
	return d
}

// full is the sum whose bytes are all 255.
func full() api.Digest { return api.Digest([]byte(strings.Repeat("\xff", 32))) }

func numbers() []uint64 {
	l := []uint64{0, 2, 300, 0x0102030405060708, 0x48f1e2d3c4b5a697, most - 1, most}
	for i := range 64 {
		l = append(l, 1<<i, 1<<i-1)
	}
	return l
}

// digests have the least and the greatest bytes at each place.
func digests() []api.Digest {
	l := []api.Digest{{}, full(), digestOf(0), digestOf(200)}
	for i := range 32 {
		l = append(l, digestOn(i, 1), digestOn(i, 128), digestOn(i, 255))
	}
	return l
}

func allHeads() []api.Head {
	l := []api.Head{{}, {Id: most, First: most, Anchor: full()}, {Id: 7, First: 300, Anchor: digestOf(9)}}
	for _, n := range numbers() {
		l = append(l, api.Head{Id: n}, api.Head{First: n}, api.Head{Id: n, First: most - n, Anchor: digestOf(byte(n))})
	}
	for _, d := range digests() {
		l = append(l, api.Head{Anchor: d}, api.Head{Id: 5, First: 6, Anchor: d})
	}
	return l
}

func greatestSuper() api.Super {
	return api.Super{Epoch: most, Tail: most, First: most, Anchor: full(), Id: most, End: most, Next: most, Sum: full()}
}

// someSuper is a super all of whose fields differ, and from those of another n.
func someSuper(n uint64) api.Super {
	return api.Super{Epoch: n, Tail: n + 1000, First: n << 8, Anchor: digestOf(byte(n)), Id: n + 3000, End: n << 16, Next: n << 24, Sum: digestOf(byte(n) + 100)}
}

// supersOf have n in one field alone, each.
func supersOf(n uint64) []api.Super {
	return []api.Super{{Epoch: n}, {Tail: n}, {First: n}, {Id: n}, {End: n}, {Next: n}}
}

func allSupers() []api.Super {
	l := []api.Super{{}, greatestSuper(), someSuper(1), someSuper(77)}
	for _, n := range numbers() {
		l = append(l, supersOf(n)...)
		l = append(l, someSuper(n))
	}
	for _, d := range digests() {
		l = append(l, api.Super{Anchor: d}, api.Super{Sum: d}, api.Super{Epoch: 4, Anchor: d, Next: 5, Sum: digestOf(3)})
	}
	return l
}

// gets tells of a text of which get does not answer what it should.
func gets[T comparable](t *testing.T, get func(string) (T, api.Errno), s string, want T, e api.Errno) {
	t.Helper()
	if x, f := get(s); x != want || f != e {
		t.Errorf("get of %d bytes, %q: %v, error %d, not %v, error %d", len(s), s[:min(len(s), 230)], x, f, want, e)
	}
}

// refused tells of a text that get does not refuse with e and nothing else.
func refused[T comparable](t *testing.T, get func(string) (T, api.Errno), s string, e api.Errno) {
	t.Helper()
	var none T
	gets(t, get, s, none, e)
}

// plain tells of a text of which GetHead or GetSuper answer another thing than the words of the promise.
func plain(t *testing.T, s string) {
	t.Helper()
	h, e := plainGetHead(s)
	gets(t, GetHead, s, h, e)
	x, e := plainGetSuper(s)
	gets(t, GetSuper, s, x, e)
}

// put is s with another byte at a place.
func put(s string, at int, c byte) string { return s[:at] + string([]byte{c}) + s[at+1:] }

// P6.1: the bytes of a head, laid by hand, with a sum that was worked out elsewhere.
func TestPutHeadByHand(t *testing.T) {
	anchor := "\x00\x01\x02\x03\x04\x05\x06\x07\x08\x09\x0a\x0b\x0c\x0d\x0e\x0f\xf0\xf1\xf2\xf3\xf4\xf5\xf6\xf7\xf8\xf9\xfa\xfb\xfc\xfd\xfe\xff"
	h := api.Head{Id: 300, First: 0x0102030405060708, Anchor: api.Digest([]byte(anchor))}
	mark, id, first := "\x48", "\x00\x00\x00\x00\x00\x00\x01\x2c", "\x01\x02\x03\x04\x05\x06\x07\x08"
	rest, sum := "\x00\x00\x00\x00\x00\x00\x00\x00\x00\x00\x00", "\xaa\x03\xdb\xce"
	s := PutHead(h)
	if len(s) != 64 {
		t.Fatalf("%d bytes", len(s))
	}
	at := 0
	for _, part := range []string{mark, id, first, anchor, rest, sum} {
		if s[at:at+len(part)] != part {
			t.Errorf("from %d on: %q, not %q", at, s[at:at+len(part)], part)
		}
		at += len(part)
	}
	if at != 64 {
		t.Errorf("%d bytes by hand", at)
	}
	gets(t, GetHead, mark+id+first+anchor+rest+sum, h, api.OK)
}

// P6.1: the heads of the least and the greatest numbers, with sums that were worked out elsewhere.
func TestPutHeadEnds(t *testing.T) {
	least := "H" + strings.Repeat("\x00", 59) + "\x88\xb4\xa2\xd9"
	if s := PutHead(api.Head{}); s != least {
		t.Errorf("the least: %q", s)
	}
	gets(t, GetHead, least, api.Head{}, api.OK)
	greatest := "H" + strings.Repeat("\xff", 48) + strings.Repeat("\x00", 11) + "\xef\x0a\xeb\x36"
	h := api.Head{Id: most, First: most, Anchor: full()}
	if s := PutHead(h); s != greatest {
		t.Errorf("the greatest: %q", s)
	}
	gets(t, GetHead, greatest, h, api.OK)
}

// P6.1: many heads, against the words of the promise.
func TestPutHead(t *testing.T) {
	for _, h := range allHeads() {
		if s := PutHead(h); s != plainHead(h) {
			t.Errorf("PutHead(%v): %q, not %q", h, s, plainHead(h))
		}
	}
}

// P6.1: the bytes of a super, laid by hand, twice.
func TestPutSuperByHand(t *testing.T) {
	anchor := "\x00\x01\x02\x03\x04\x05\x06\x07\x08\x09\x0a\x0b\x0c\x0d\x0e\x0f\xf0\xf1\xf2\xf3\xf4\xf5\xf6\xf7\xf8\xf9\xfa\xfb\xfc\xfd\xfe\xff"
	sum := "this is a sum, of 32 bytes alone"
	x := api.Super{Epoch: 1, Tail: 300, First: 0x0102030405060708, Anchor: api.Digest([]byte(anchor)), Id: 1 << 63, End: 65536, Next: most, Sum: api.Digest([]byte(sum))}
	parts := []string{
		"\x53",
		"\x00\x00\x00\x00\x00\x00\x00\x01",
		"\x00\x00\x00\x00\x00\x00\x01\x2c",
		"\x01\x02\x03\x04\x05\x06\x07\x08",
		"\x80\x00\x00\x00\x00\x00\x00\x00",
		"\x00\x00\x00\x00\x00\x01\x00\x00",
		"\xff\xff\xff\xff\xff\xff\xff\xff",
		anchor,
		sum,
	}
	s := PutSuper(x)
	if len(s) != 226 {
		t.Fatalf("%d bytes", len(s))
	}
	at := 0
	for range 2 {
		for _, part := range parts {
			if s[at:at+len(part)] != part {
				t.Errorf("from %d on: %q, not %q", at, s[at:at+len(part)], part)
			}
			at += len(part)
		}
		if at != 113 && at != 226 {
			t.Errorf("%d bytes by hand", at)
		}
	}
	gets(t, GetSuper, strings.Join(parts, "")+strings.Join(parts, ""), x, api.OK)
}

// P6.1: the supers of the least and the greatest numbers.
func TestPutSuperEnds(t *testing.T) {
	least := "S" + strings.Repeat("\x00", 112)
	if s := PutSuper(api.Super{}); s != least+least {
		t.Errorf("the least: %q", s)
	}
	gets(t, GetSuper, least+least, api.Super{}, api.OK)
	greatest := "S" + strings.Repeat("\xff", 112)
	if s := PutSuper(greatestSuper()); s != greatest+greatest {
		t.Errorf("the greatest: %q", s)
	}
	gets(t, GetSuper, greatest+greatest, greatestSuper(), api.OK)
}

// P6.1: many supers, against the words of the promise.
func TestPutSuper(t *testing.T) {
	for _, x := range allSupers() {
		if s := PutSuper(x); s != plainSuper(x) {
			t.Errorf("PutSuper(%v): %q, not %q", x, s, plainSuper(x))
		}
	}
}

// P6.2: fewer than 64 bytes are told ahead of a wrong first byte and of a wrong sum.
func TestGetHeadFew(t *testing.T) {
	for _, s := range []string{plainHead(api.Head{}), plainHead(api.Head{Id: 7, First: 300, Anchor: digestOf(9)}), strings.Repeat("\x00", 64), strings.Repeat("H", 64), strings.Repeat("S", 64), strings.Repeat("\xff", 64)} {
		for i := range 64 {
			refused(t, GetHead, s[:i], api.ErrMore)
			refused(t, GetHead, s[1:][:min(i, 63)], api.ErrMore)
		}
	}
}

// P6.2: a first byte that is not 72, ahead of a wrong sum and of bytes that should be 0.
func TestGetHeadMark(t *testing.T) {
	ahead := plainHead(api.Head{Id: 7, First: 300, Anchor: digestOf(9)})[:60]
	for c := range 256 {
		if c == 72 {
			continue
		}
		other := put(ahead, 0, byte(c))
		refused(t, GetHead, summed60(other), api.ErrForm)
		refused(t, GetHead, summed60(other)+"behind", api.ErrForm)
		refused(t, GetHead, other+summed60(ahead)[60:], api.ErrForm)
		refused(t, GetHead, summed60(put(other, 55, 1)), api.ErrForm)
		refused(t, GetHead, put(other, 55, 1)+"sums", api.ErrForm)
	}
}

// P6.2: a sum that is another one, ahead of bytes that should be 0.
func TestGetHeadSum(t *testing.T) {
	right := plainHead(api.Head{Id: 7, First: 300, Anchor: digestOf(9)})
	for _, s := range []string{right, plainHead(api.Head{}), summed60(put(right[:60], 49, 1)), summed60(put(right[:60], 59, 255)), summed60("H" + strings.Repeat("\xff", 59))} {
		for i := 60; i < 64; i++ {
			for c := range 256 {
				if byte(c) != s[i] {
					refused(t, GetHead, put(s, i, byte(c)), api.ErrSum)
				}
			}
		}
		sum := s[60:]
		turned := string([]byte{^sum[0], ^sum[1], ^sum[2], ^sum[3]})
		back := string([]byte{sum[3], sum[2], sum[1], sum[0]})
		for _, other := range []string{turned, back, "\x00\x00\x00\x00", "\xff\xff\xff\xff", summed60(s[:59])[59:], summed60(s[1:60])[59:], summed60(s)[64:]} {
			refused(t, GetHead, s[:60]+other, api.ErrSum)
			refused(t, GetHead, s[:60]+other+sum, api.ErrSum)
		}
	}
}

// P6.2: a byte that should be 0 and is not, with a right sum, at each of its places; and with the sum as it was.
func TestGetHeadNotZero(t *testing.T) {
	for _, h := range []api.Head{{}, {Id: 7, First: 300, Anchor: digestOf(9)}, {Id: most, First: most, Anchor: full()}} {
		s := plainHead(h)
		for i := 49; i < 60; i++ {
			for c := 1; c < 256; c++ {
				other := put(s[:60], i, byte(c))
				refused(t, GetHead, summed60(other), api.ErrForm)
				refused(t, GetHead, summed60(other)+s, api.ErrForm)
				refused(t, GetHead, other+s[60:], api.ErrSum)
			}
		}
		refused(t, GetHead, summed60(s[:49]+strings.Repeat("\xff", 11)), api.ErrForm)
		refused(t, GetHead, summed60(s[:49]+strings.Repeat("0", 11)), api.ErrForm)
	}
}

// P6.2: fewer than 226 bytes are told ahead of a wrong first byte and of halves that differ.
func TestGetSuperFew(t *testing.T) {
	for _, s := range []string{plainSuper(api.Super{}), plainSuper(someSuper(5)), plainSuper(greatestSuper()), strings.Repeat("\x00", 226), strings.Repeat("H", 226), strings.Repeat("S", 226), "S" + strings.Repeat("\x01", 225)} {
		for i := range 226 {
			refused(t, GetSuper, s[:i], api.ErrMore)
			refused(t, GetSuper, s[1:][:min(i, 225)], api.ErrMore)
		}
	}
}

// P6.2: a first byte that is not 83, ahead of halves that differ.
func TestGetSuperMark(t *testing.T) {
	s := plainSuper(someSuper(5))
	for c := range 256 {
		if c == 83 {
			continue
		}
		other := put(s, 0, byte(c))
		refused(t, GetSuper, other, api.ErrForm)
		refused(t, GetSuper, put(other, 113, byte(c)), api.ErrForm)
		refused(t, GetSuper, put(other, 113, byte(c))+"behind", api.ErrForm)
		refused(t, GetSuper, put(other, 112, s[112]+1), api.ErrForm)
		refused(t, GetSuper, put(other, 225, s[225]+1), api.ErrForm)
		refused(t, GetSuper, put(s, 113, byte(c)), api.ErrSum)
	}
}

// P6.2: two halves that differ, at each place, in each half.
func TestGetSuperHalves(t *testing.T) {
	for _, x := range []api.Super{{}, someSuper(5), greatestSuper()} {
		s := plainSuper(x)
		for i := 1; i < 226; i++ {
			for c := range 256 {
				if byte(c) != s[i] {
					refused(t, GetSuper, put(s, i, byte(c)), api.ErrSum)
				}
			}
			refused(t, GetSuper, put(s, i, s[i]+1)+s, api.ErrSum)
		}
	}
	for n := range uint64(20) {
		a, b := plainSuper(someSuper(n)), plainSuper(someSuper(n+1))
		refused(t, GetSuper, a[:113]+b[:113], api.ErrSum)
		refused(t, GetSuper, b[:113]+a[:113]+b, api.ErrSum)
		refused(t, GetSuper, a[:113]+plainHead(api.Head{Id: n})+a, api.ErrSum)
	}
}

// P6.2: what stands behind a head and behind a super does not matter.
func TestBehind(t *testing.T) {
	for _, behind := range []string{"", "\x00", "\x01", "H", "S", "\xff\xff\xff\xff", strings.Repeat("\x01", 1000), plainHead(api.Head{Id: 3}), plainSuper(someSuper(3))} {
		for _, h := range allHeads() {
			gets(t, GetHead, plainHead(h)+behind, h, api.OK)
		}
		for _, x := range allSupers() {
			gets(t, GetSuper, plainSuper(x)+behind, x, api.OK)
		}
	}
}

// P6.2: texts of which each byte is each other one, is left out or told twice, against the words of the promise.
func TestGetChanged(t *testing.T) {
	head, super := plainHead(api.Head{Id: 7, First: 300, Anchor: digestOf(9)}), plainSuper(someSuper(5))
	for _, s := range []string{head, head + "behind", super, super + "behind", super + super} {
		for i := range len(s) {
			for c := range 256 {
				plain(t, put(s, i, byte(c)))
			}
			plain(t, s[:i]+s[i+1:])
			plain(t, s[:i]+s[i:i+1]+s[i:])
			plain(t, s[:i])
			plain(t, s[i:])
		}
	}
}

// P6.3: a lesser, an equal and a greater Epoch, up to the greatest number; no other field matters.
func TestNewer(t *testing.T) {
	rising := []uint64{0, 1, 2, 255, 256, 1<<31 - 1, 1 << 31, 1<<32 - 1, 1 << 32, 1<<53 + 1, 1<<63 - 1, 1 << 63, 1<<63 + 1, most - 1, most}
	for i, a := range rising {
		for j, b := range rising {
			low, high := api.Super{}, greatestSuper()
			low.Epoch, high.Epoch = a, b
			if newer := Newer(low, high); newer != (i > j) {
				t.Errorf("Newer of %d and %d, the other fields less: %v", a, b, newer)
			}
			low.Epoch, high.Epoch = b, a
			if newer := Newer(high, low); newer != (i > j) {
				t.Errorf("Newer of %d and %d, the other fields greater: %v", a, b, newer)
			}
			if newer := Newer(api.Super{Epoch: a}, api.Super{Epoch: b}); newer != (i > j) {
				t.Errorf("Newer of %d and %d: %v", a, b, newer)
			}
		}
	}
}

// P6.4: what is put is got again, whatever stands behind it.
func TestPutIsGot(t *testing.T) {
	for _, behind := range []string{"", "H", "behind"} {
		for _, h := range allHeads() {
			gets(t, GetHead, PutHead(h)+behind, h, api.OK)
		}
		for _, x := range allSupers() {
			gets(t, GetSuper, PutSuper(x)+behind, x, api.OK)
		}
	}
}

// P6.4: what is got is what would be put.
func TestGotIsPut(t *testing.T) {
	heads, supers := 0, 0
	head, super := plainHead(api.Head{Id: 7, First: 300, Anchor: digestOf(9)}), plainSuper(someSuper(5))
	for c := range 256 {
		for i := range 60 {
			s := summed60(put(head[:60], i, byte(c)))
			if h, e := GetHead(s + "behind"); e == api.OK {
				heads++
				if PutHead(h) != s {
					t.Errorf("GetHead(%q): that is %q", s, PutHead(h))
				}
			}
		}
		for i := range 113 {
			s := put(super[:113], i, byte(c))
			if x, e := GetSuper(s + s + "behind"); e == api.OK {
				supers++
				if PutSuper(x) != s+s {
					t.Errorf("GetSuper(%q): that is %q", s+s, PutSuper(x))
				}
			}
		}
	}
	// The byte in front, and those that should be 0, have one value each.
	if heads != 48*256+12 || supers != 112*256+1 {
		t.Errorf("%d heads and %d supers were got", heads, supers)
	}
}

// P6.4: a head is no super, and a super no head, whatever stands behind.
func TestHeadIsNoSuper(t *testing.T) {
	for _, h := range allHeads() {
		s := PutHead(h)
		refused(t, GetSuper, s, api.ErrMore)
		refused(t, GetSuper, s+s+s, api.ErrMore)
		refused(t, GetSuper, s+s+s+s, api.ErrForm)
		refused(t, GetSuper, s+strings.Repeat("\x00", 49)+s+strings.Repeat("\x00", 49), api.ErrForm)
		refused(t, GetSuper, s+PutSuper(someSuper(5)), api.ErrForm)
	}
	for _, x := range allSupers() {
		refused(t, GetHead, PutSuper(x), api.ErrForm)
		refused(t, GetHead, summed60(PutSuper(x)[:60]), api.ErrForm)
	}
}

// fourBytes are ways to change some of four bytes: each bit alone, and each set of bytes in many ways, that differ from place to place.
func fourBytes(at int) [][4]byte {
	l := [][4]byte{{1}, {0, 128}, {0, 0, 0, 1}, {255, 255, 255, 255}, {237, 184, 131, 32}, {131, 32, 237, 184}}
	for i := range 32 {
		var by [4]byte
		by[i/8] = 1 << (i % 8)
		l = append(l, by)
	}
	for n := range 900 {
		var by [4]byte
		for i := range by {
			if set := n%15 + 1; set>>i&1 == 1 {
				by[i] = byte(1 + (n*(37+2*i)+at*13+i*101)%255)
			}
		}
		l = append(l, by)
	}
	return l
}

// P6.4: some of four bytes changed, one behind the other, at each place behind the first one and ahead of the sum, and at the sum.
func TestFourChanged(t *testing.T) {
	places := []int{60}
	for at := 1; at+4 <= 60; at++ {
		places = append(places, at)
	}
	for _, h := range []api.Head{{}, {Id: 7, First: 300, Anchor: digestOf(9)}, {Id: most, First: most, Anchor: full()}} {
		s := PutHead(h)
		for _, at := range places {
			for _, by := range fourBytes(at) {
				changed := []byte(s)
				for i, c := range by {
					changed[at+i] ^= c
				}
				refused(t, GetHead, string(changed), api.ErrSum)
				refused(t, GetHead, string(changed)+s, api.ErrSum)
			}
		}
	}
}

// pairs are supers of which one may be written over the other: far apart, near one another, and the same one.
func pairs() [][2]api.Super {
	l := [][2]api.Super{{{}, {}}, {{}, greatestSuper()}, {someSuper(4), someSuper(5)}, {someSuper(255), someSuper(256)}, {someSuper(9), someSuper(9)}}
	for _, n := range []uint64{1, 255, 256, 1 << 32, 1 << 63, most} {
		for _, x := range supersOf(n) {
			l = append(l, [2]api.Super{{}, x}, [2]api.Super{greatestSuper(), x})
		}
	}
	for i := range 32 {
		l = append(l, [2]api.Super{{}, {Anchor: digestOn(i, 1)}}, [2]api.Super{{}, {Sum: digestOn(i, 1)}})
	}
	return l
}

// P6.4: a super that was written over another one, up to each place, is one of both, or none.
func TestTornOver(t *testing.T) {
	for _, p := range pairs() {
		for _, p := range [][2]api.Super{p, {p[1], p[0]}} {
			a, b := PutSuper(p[0]), PutSuper(p[1])
			for i := range 227 {
				s := b[:i] + a[i:]
				x, e := GetSuper(s)
				switch s {
				case a:
					gets(t, GetSuper, s, p[0], api.OK)
				case b:
					gets(t, GetSuper, s, p[1], api.OK)
				default:
					refused(t, GetSuper, s, api.ErrSum)
				}
				if e == api.OK && x != p[0] && x != p[1] {
					t.Errorf("%v over %v, up to %d: %v", p[1], p[0], i, x)
				}
				gets(t, GetSuper, s+strings.Repeat("\x00", 30), x, e)
			}
		}
	}
}

// P6.4: a super that was written over bytes 0, up to each place, is that one, or none.
func TestTornOverZeros(t *testing.T) {
	zeros := strings.Repeat("\x00", 226)
	for _, x := range allSupers() {
		whole := PutSuper(x)
		for i := range 227 {
			s := whole[:i] + zeros[i:]
			switch {
			case i == 0:
				refused(t, GetSuper, s, api.ErrForm)
			case s == whole:
				gets(t, GetSuper, s, x, api.OK)
			default:
				refused(t, GetSuper, s, api.ErrSum)
			}
		}
	}
}

// R1: any text is answered.
func TestAnyText(t *testing.T) {
	n := uint32(1)
	for size := range 400 {
		b := make([]byte, size)
		for i := range b {
			n = n*1664525 + 1013904223
			b[i] = byte(n >> 24)
		}
		plain(t, string(b))
		for _, c := range []byte{0, 72, 83, 255} {
			plain(t, strings.Repeat(string([]byte{c}), size))
			if size > 0 {
				plain(t, put(string(b), 0, c))
			}
		}
	}
}

// R2: what was put and got stays as it was, and is the same when it is asked again.
func TestNothingChanges(t *testing.T) {
	h, x := api.Head{Id: 7, First: 300, Anchor: digestOf(9)}, someSuper(5)
	head, super := PutHead(h), PutSuper(x)
	gotHead, _ := GetHead(head)
	gotSuper, _ := GetSuper(super)
	for _, other := range allHeads() {
		GetHead(PutHead(other))
	}
	for _, other := range allSupers() {
		GetSuper(PutSuper(other))
	}
	if gotHead != h || gotSuper != x || PutHead(h) != head || PutSuper(x) != super {
		t.Errorf("a head or a super has changed")
	}
	gets(t, GetHead, head, h, api.OK)
	gets(t, GetSuper, super, x, api.OK)
}
