package crc

import (
	"hash/crc32"
	"strings"
	"testing"
)

// allBytes has each byte value once, in order.
func allBytes() string {
	b := make([]byte, 256)
	for i := range b {
		b[i] = byte(i)
	}
	return string(b)
}

// someSums are sums with bits at the ends, alone, mixed, all and none.
func someSums() []uint32 {
	l := []uint32{0, 1, 2, 0x7f, 0x80, 0xff, 0x100, 0x7fffffff, 0x80000000, 0xfffffffe, 0xffffffff, 3988292384, 3421780262, 0xdeadbeef}
	for i := range 32 {
		l = append(l, 1<<i, ^uint32(1<<i))
	}
	return l
}

// someTexts are texts of many lengths, with low and high bytes.
func someTexts() []string {
	all := allBytes()
	l := []string{"", "\x00", "\xff", "\x00\x00\x00\x00", "\xff\xff\xff\xff", "a", "abc", "123456789", "été", "\xc3", "a\x00b", all, all + all, strings.Repeat("\x80", 1000)}
	for i := range 20 {
		l = append(l, all[i*11:i*12+3])
	}
	return l
}

// plainAdd is what P1.1 says, told by sums and halves of greater numbers.
func plainAdd(sum uint32, b string) uint32 {
	n := uint64(sum)
	for i := 0; i < len(b); i++ {
		n = n/256*256 + (n%256 ^ uint64(b[i]))
		for k := 0; k < 8; k++ {
			odd := n % 2
			n = n / 2
			if odd == 1 {
				n ^= 3988292384
			}
		}
	}
	return uint32(n)
}

// mixed is a long text whose bytes follow no short pattern.
func mixed(n int) string {
	b := make([]byte, n)
	x := uint32(1)
	for i := range b {
		x = x*1664525 + 1013904223
		b[i] = byte(x >> 24)
	}
	return string(b)
}

// P1.1: all 32 bits are set at the start.
func TestStart(t *testing.T) {
	if n := Start(); n != 4294967295 {
		t.Errorf("Start: %d", n)
	}
}

// P1.1: no bytes leave each sum as it is.
func TestAddNothing(t *testing.T) {
	for _, s := range someSums() {
		if n := Add(s, ""); n != s {
			t.Errorf("Add(%08x, nothing): %08x", s, n)
		}
	}
}

// P1.1: a few steps that were done by hand.
func TestAddByHand(t *testing.T) {
	for _, x := range []struct {
		sum  uint32
		b    string
		want uint32
	}{
		{0, "\x00", 0},
		{0, "\x80", 3988292384},
		{0x80, "\x80", 0},
		{0xff, "\xff", 0},
		{0x100, "\x00", 1},
		{0x100, "\x00\x01", 0},
		{0xffffff00, "\x00", 0x00ffffff},
		{0xffffffff, "\xff", 0x00ffffff},
	} {
		if n := Add(x.sum, x.b); n != x.want {
			t.Errorf("Add(%08x, %q): %08x, not %08x", x.sum, x.b, n, x.want)
		}
	}
}

// P1.1: each byte value, on each of many sums.
func TestAddEachByte(t *testing.T) {
	for _, s := range someSums() {
		for c := range 256 {
			b := string([]byte{byte(c)})
			if n, want := Add(s, b), plainAdd(s, b); n != want {
				t.Fatalf("Add(%08x, byte %d): %08x, not %08x", s, c, n, want)
			}
		}
	}
}

// P1.1: any text, on any sum, against the words of the promise and against the library.
func TestAddTexts(t *testing.T) {
	for _, s := range someSums() {
		for _, b := range someTexts() {
			n := Add(s, b)
			if want := plainAdd(s, b); n != want {
				t.Errorf("Add(%08x, %q): %08x, not %08x", s, b, n, want)
			}
			if want := ^crc32.Update(^s, crc32.IEEETable, []byte(b)); n != want {
				t.Errorf("Add(%08x, %q): %08x, the library's is %08x", s, b, n, want)
			}
		}
	}
}

// P1.1: a text is bytes, whether it is right as runes or not, and their order matters.
func TestAddBytesNotRunes(t *testing.T) {
	if a, b := Add(Start(), "é"), Add(Start(), "\xc3\xa9"); a != b {
		t.Errorf("%08x, %08x", a, b)
	}
	if a, b := Of("ab"), Of("ba"); a == b {
		t.Errorf("both orders: %08x", a)
	}
	if a, b := Of("\xff"), Of("\xfe"); a == b {
		t.Errorf("no runes both: %08x", a)
	}
}

// P1.2: End turns all bits, and nothing else.
func TestEnd(t *testing.T) {
	for _, s := range someSums() {
		if n := End(s); n != 4294967295-s {
			t.Errorf("End(%08x): %08x", s, n)
		}
		if n := End(End(s)); n != s {
			t.Errorf("End twice of %08x: %08x", s, n)
		}
	}
}

// P1.2: the chapter's examples, and sums that are known elsewhere.
func TestOfKnown(t *testing.T) {
	for _, x := range []struct {
		b    string
		want uint32
	}{
		{"123456789", 3421780262},
		{"", 0},
		{"a", 0xe8b7be43},
		{"abc", 0x352441c2},
		{"\x00", 0xd202ef8d},
		{"\xff\xff\xff\xff", 0xffffffff},
		{"The quick brown fox jumps over the lazy dog", 0x414fa339},
		{allBytes(), 0x29058c73},
	} {
		if n := Of(x.b); n != x.want {
			t.Errorf("Of(%q): %08x, not %08x", x.b, n, x.want)
		}
	}
}

// P1.2: Of is End of Add of Start.
func TestOf(t *testing.T) {
	for _, b := range append(someTexts(), mixed(70000)) {
		n := Of(b)
		if want := End(Add(Start(), b)); n != want {
			t.Errorf("Of, %d bytes: %08x, not %08x", len(b), n, want)
		}
		if want := crc32.ChecksumIEEE([]byte(b)); n != want {
			t.Errorf("Of, %d bytes: %08x, the library's is %08x", len(b), n, want)
		}
	}
}

// P1.2: a sum hangs on the bytes alone, however often it was asked for, and whatever was asked between.
func TestOfAgain(t *testing.T) {
	first := Of("123456789")
	Add(7, "other bytes")
	Of(allBytes())
	if again := Of("123456789"); again != first {
		t.Errorf("%08x, then %08x", first, again)
	}
}

// P1.3: bytes added in two pieces have the sum of the whole, on any sum.
func TestTwoPieces(t *testing.T) {
	for _, b := range []string{"", "a", "123456789", allBytes(), mixed(300)} {
		for i := range len(b) + 1 {
			if a, whole := End(Add(Add(Start(), b[:i]), b[i:])), Of(b); a != whole {
				t.Errorf("%d bytes, cut at %d: %08x, not %08x", len(b), i, a, whole)
			}
			for _, s := range []uint32{0, 1, 0x80000000, 0xdeadbeef} {
				if a, whole := Add(Add(s, b[:i]), b[i:]), Add(s, b); a != whole {
					t.Errorf("on %08x, %d bytes, cut at %d: %08x, not %08x", s, len(b), i, a, whole)
				}
			}
		}
	}
}

// changed is b with the bits of by turned in its bytes from at on.
func changed(b string, at int, by string) string {
	c := []byte(b)
	for i := range len(by) {
		c[at+i] ^= by[i]
	}
	return string(c)
}

// bitOf is four bytes with one bit of the 32 set.
func bitOf(i int) string {
	n := uint32(1) << i
	return string([]byte{byte(n >> 24), byte(n >> 16), byte(n >> 8), byte(n)})
}

// rank is how many of the words are not made of the others by XOR.
func rank(l []uint32) int {
	var lead [32]uint32
	many := 0
	for _, w := range l {
		for i := 31; i >= 0 && w != 0; i-- {
			if w>>i&1 == 0 {
				continue
			}
			if lead[i] == 0 {
				lead[i] = w
				many++
				break
			}
			w ^= lead[i]
		}
	}
	return many
}

// P1.3: texts that differ within four bytes, one behind the other, have sums that differ.
func TestFourBytes(t *testing.T) {
	b := mixed(40)
	whole := Of(b)
	for at := range len(b) - 3 {
		for _, by := range []string{"\x01\x00\x00\x01", "\x80\x00\x00\x80", "\x00\x80\x01\x00", "\xff\xff\xff\xff", "\x20\x83\xb8\xed", "\xed\xb8\x83\x20"} {
			if n := Of(changed(b, at, by)); n == whole {
				t.Errorf("changed at %d by %q: the same sum", at, by)
			}
		}
	}
}

// P1.3: what the 32 bits of four bytes change in the sum is such that no set of them is without effect; as sums go by XOR, that is so of all changes.
func TestFourBytesAllChanges(t *testing.T) {
	for _, b := range []string{"\x00\x00\x00\x00", "1234567", allBytes()} {
		for at := range len(b) - 3 {
			var l []uint32
			for i := range 32 {
				l = append(l, Of(b)^Of(changed(b, at, bitOf(i))))
			}
			if n := rank(l); n != 32 {
				t.Errorf("%d bytes, changed at %d: rank %d", len(b), at, n)
			}
		}
	}
}

// P1.3: all changes of two bytes, one behind the other, have sums of their own.
func TestTwoBytesAllApart(t *testing.T) {
	seen := map[uint32]bool{}
	for i := range 1 << 16 {
		n := Of(changed("sum of sums", 4, string([]byte{byte(i >> 8), byte(i)})))
		if seen[n] {
			t.Fatalf("change %04x: the sum of another one", i)
		}
		seen[n] = true
	}
}

// P1.3: the sum of three texts of one length, bit by bit against one another, is their sums, likewise.
func TestThreeTexts(t *testing.T) {
	for _, n := range []int{0, 1, 2, 3, 4, 5, 64, 255, 1000} {
		m := mixed(3 * n)
		x, y, z := m[:n], m[n:2*n], m[2*n:]
		if a, want := Of(changed(changed(x, 0, y), 0, z)), Of(x)^Of(y)^Of(z); a != want {
			t.Errorf("three texts of %d bytes: %08x, not %08x", n, a, want)
		}
	}
}
