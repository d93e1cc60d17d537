package wire

import (
	"encoding/binary"
	"math"
	"math/big"
	"strings"
	"testing"

	"blackbox/api"
)

// plainPut is P3.1, by division of numbers without bounds.
func plainPut(n uint64) string {
	left, all := new(big.Int).SetUint64(n), big.NewInt(128)
	var b []byte
	for {
		seven := new(big.Int)
		left.DivMod(left, all, seven)
		if left.Sign() == 0 {
			return string(append(b, byte(seven.Int64())))
		}
		b = append(b, byte(seven.Int64()+128))
	}
}

// plainTake is P3.1, in numbers without bounds.
func plainTake(s string) (uint64, string, api.Errno) {
	last := -1
	for i := range min(10, len(s)) {
		if s[i] < 128 {
			last = i
			break
		}
	}
	if last < 0 && len(s) < 10 {
		return 0, "", api.ErrMore
	}
	if last < 0 {
		return 0, "", api.ErrRange
	}
	sum := new(big.Int)
	for i := last; i >= 0; i-- {
		sum.Mul(sum, big.NewInt(128))
		sum.Add(sum, big.NewInt(int64(s[i]%128)))
	}
	if !sum.IsUint64() {
		return 0, "", api.ErrRange
	}
	if last > 0 && s[last] == 0 {
		return 0, "", api.ErrForm
	}
	return sum.Uint64(), s[last+1:], api.OK
}

// plainFixed is P3.3, as the end of all eight bytes.
func plainFixed(n uint64, width int) string {
	if width < 1 || width > 8 {
		return ""
	}
	var whole [8]byte
	new(big.Int).SetUint64(n).FillBytes(whole[:])
	return string(whole[8-width:])
}

// plainSign is P3.4, in numbers without bounds.
func plainSign(n int) uint64 {
	x := big.NewInt(int64(n))
	if n < 0 {
		x.Neg(x).Lsh(x, 1).Sub(x, big.NewInt(1))
	} else {
		x.Lsh(x, 1)
	}
	return x.Uint64()
}

// someNumbers are those about each power of two, about the edges that the document names, and mixed ones.
func someNumbers() []uint64 {
	l := []uint64{0, 1, 2, 126, 127, 128, 129, 255, 256, 300, 16383, 16384, 65535, 65536, 65537, 1<<64 - 1}
	for k := range 64 {
		p := uint64(1) << k
		l = append(l, p-1, p, p+1, ^p, p|1<<63, p*3, p*127, p*128-p)
	}
	x := uint64(88172645463325252)
	for k := range 2000 {
		x ^= x << 13
		x ^= x >> 7
		x ^= x << 17
		l = append(l, x>>(k%64))
	}
	return l
}

// behind are texts that may stand behind what was put.
func behind() []string {
	return []string{"", "\x00", "\x01", "\x7f", "\x80", "\xff", "\x80\x00", "\x00\x00", "text", "\xff\xff\xff\xff\xff\xff\xff\xff\xff\xff\xff\xff", "\u00e9"}
}

// someBytes are texts of up to eleven bytes, right and wrong ones, whose last bytes are at the edges.
func someBytes() []string {
	edges := []byte{0, 1, 2, 3, 64, 126, 127, 128, 129, 130, 191, 192, 254, 255}
	var l []string
	for n := range 12 {
		for _, fill := range []string{"\x80", "\x81", "\xc0", "\xfe", "\xff"} {
			front := strings.Repeat(fill, n)
			l = append(l, front)
			for _, a := range edges {
				l = append(l, front+string([]byte{a}))
				for _, b := range edges {
					l = append(l, front+string([]byte{a, b}), string([]byte{a, b})+front)
				}
			}
		}
	}
	return l
}

// taken tells of a number that Take does not take as it should.
func taken(t *testing.T, s string, n uint64, left string, e api.Errno) {
	t.Helper()
	if a, b, c := Take(s); a != n || b != left || c != e {
		t.Errorf("Take(%q): %d, %q, error %d, not %d, %q, error %d", s, a, b, c, n, left, e)
	}
}

// P3.1: the chapter's example, and numbers whose bytes are known.
func TestPutKnown(t *testing.T) {
	for _, x := range []struct {
		n    uint64
		want string
	}{
		{0, "\x00"}, {1, "\x01"}, {127, "\x7f"}, {128, "\x80\x01"}, {129, "\x81\x01"}, {255, "\xff\x01"}, {256, "\x80\x02"},
		{300, "\xac\x02"}, {16383, "\xff\x7f"}, {16384, "\x80\x80\x01"}, {65536, "\x80\x80\x04"},
		{1<<63 - 1, "\xff\xff\xff\xff\xff\xff\xff\xff\x7f"},
		{1 << 63, "\x80\x80\x80\x80\x80\x80\x80\x80\x80\x01"},
		{1<<64 - 1, "\xff\xff\xff\xff\xff\xff\xff\xff\xff\x01"},
	} {
		if s := Put(x.n); s != x.want {
			t.Errorf("Put(%d): %q, not %q", x.n, s, x.want)
		}
		taken(t, x.want, x.n, "", api.OK)
		taken(t, x.want+"left", x.n, "left", api.OK)
	}
}

// P3.1: numbers of all lengths, by a plain form and by the library.
func TestPut(t *testing.T) {
	for _, n := range someNumbers() {
		s := Put(n)
		if want := plainPut(n); s != want {
			t.Errorf("Put(%d): %q, not %q", n, s, want)
		}
		if want := string(binary.AppendUvarint(nil, n)); s != want {
			t.Errorf("Put(%d): %q, not the library's %q", n, s, want)
		}
	}
	for n := range uint64(70000) {
		if s, want := Put(n), plainPut(n); s != want {
			t.Errorf("Put(%d): %q, not %q", n, s, want)
		}
	}
}

// P3.1: as many bytes as there are sevens of bits, one at least; each but the last one has 128 more.
func TestPutLengths(t *testing.T) {
	for k := range 64 {
		least, greatest := uint64(1)<<k, uint64(1)<<k-1+uint64(1)<<k
		for _, n := range []uint64{least, greatest} {
			s := Put(n)
			if len(s) != k/7+1 {
				t.Errorf("Put(%d): %d bytes", n, len(s))
			}
			for i := range len(s) {
				if s[i] < 128 != (i == len(s)-1) {
					t.Errorf("Put(%d): %q", n, s)
				}
			}
		}
	}
}

// P3.1: the chapter's examples.
func TestTakeExamples(t *testing.T) {
	taken(t, "\xac\x02\x07", 300, "\x07", api.OK)
	taken(t, "\x80\x00", 0, "", api.ErrForm)
}

// P3.1: no bytes, and fewer than ten, none of which is below 128.
func TestTakeMore(t *testing.T) {
	taken(t, "", 0, "", api.ErrMore)
	for n := range 10 {
		for _, c := range []string{"\x80", "\x81", "\xac", "\xff"} {
			taken(t, strings.Repeat(c, n), 0, "", api.ErrMore)
		}
	}
}

// P3.1: ten bytes and more, where none of the first ten is below 128.
func TestTakeNoLast(t *testing.T) {
	for n := 10; n < 40; n++ {
		for _, c := range []string{"\x80", "\x81", "\xff"} {
			front := strings.Repeat(c, n)
			for _, s := range []string{front, front + "\x00", front + "\x01", front + "\x7f", front + "text"} {
				taken(t, s, 0, "", api.ErrRange)
			}
		}
	}
	// Of nine bytes, with more behind them, the tenth one is the last that is looked at.
	taken(t, strings.Repeat("\x80", 9)+"\x01\x05", 1<<63, "\x05", api.OK)
	taken(t, strings.Repeat("\x80", 9)+"\x80\x01", 0, "", api.ErrRange)
}

// P3.1: ten bytes that tell two to the power of 64 and more, and those that tell less.
func TestTakeTen(t *testing.T) {
	for _, c := range []byte{0x80, 0x81, 0xc0, 0xff} {
		front := strings.Repeat(string([]byte{c}), 9)
		for last := range 256 {
			s := front + string([]byte{byte(last)})
			for _, left := range behind() {
				switch {
				case last == 0:
					taken(t, s+left, 0, "", api.ErrForm)
				case last > 1:
					taken(t, s+left, 0, "", api.ErrRange)
				}
			}
		}
	}
	taken(t, strings.Repeat("\xff", 9)+"\x01", 1<<64-1, "", api.OK)
	taken(t, strings.Repeat("\x80", 9)+"\x01", 1<<63, "", api.OK)
	taken(t, strings.Repeat("\x80", 9)+"\x02", 0, "", api.ErrRange)
	taken(t, strings.Repeat("\xff", 9)+"\x03", 0, "", api.ErrRange)
}

// P3.1: a last byte 0 is right where it is the first one alone.
func TestTakeForm(t *testing.T) {
	for _, left := range behind() {
		taken(t, "\x00"+left, 0, left, api.OK)
		for n := 1; n < 10; n++ {
			for _, c := range []string{"\x80", "\x81", "\xff"} {
				taken(t, strings.Repeat(c, n)+"\x00"+left, 0, "", api.ErrForm)
			}
		}
	}
}

// P3.1: all texts of one and of two bytes, and texts at the edges of many lengths.
func TestTake(t *testing.T) {
	same := func(s string) {
		n, left, e := plainTake(s)
		taken(t, s, n, left, e)
	}
	for a := range 256 {
		same(string([]byte{byte(a)}))
		for b := range 256 {
			same(string([]byte{byte(a), byte(b)}))
			same(string([]byte{byte(a), 0x80, byte(b)}))
			same("\xff\x80\xff\x80\xff\x80\xff\x80" + string([]byte{byte(a), byte(b)}))
		}
	}
	for _, s := range someBytes() {
		same(s)
	}
}

// P3.2: texts with no bytes, with some, and at the edges of how many there may be.
func TestText(t *testing.T) {
	for _, n := range []int{0, 1, 2, 126, 127, 128, 129, 300, 16383, 16384, 65535, 65536} {
		text := strings.Repeat("\xc3", n)
		s, e := Text(text)
		if want := plainPut(uint64(n)) + text; s != want || e != api.OK {
			t.Errorf("%d bytes: %d bytes, error %d", n, len(s), e)
		}
	}
	for _, n := range []int{65537, 65538, 70000, 131072, 1 << 20} {
		if s, e := Text(strings.Repeat("a", n)); s != "" || e != api.ErrLimit {
			t.Errorf("%d bytes: %d bytes, error %d", n, len(s), e)
		}
	}
	if s, e := Text("abc\x00\xff\u00e9"); s != "\x07abc\x00\xff\xc3\xa9" || e != api.OK {
		t.Errorf("%q, error %d", s, e)
	}
}

// textTaken tells of a text that TakeText does not take as it should.
func textTaken(t *testing.T, s, text, left string, e api.Errno) {
	t.Helper()
	if a, b, c := TakeText(s); a != text || b != left || c != e {
		t.Errorf("TakeText of %d bytes: %d bytes, %d left, error %d, not %d, %d, error %d", len(s), len(a), len(b), c, len(text), len(left), e)
	}
}

// P3.2: so many bytes as the number tells, and what is left.
func TestTakeText(t *testing.T) {
	textTaken(t, "\x00", "", "", api.OK)
	textTaken(t, "\x00abc", "", "abc", api.OK)
	textTaken(t, "\x03abc", "abc", "", api.OK)
	textTaken(t, "\x03abcde", "abc", "de", api.OK)
	textTaken(t, "\x02\x00\xff\x80", "\x00\xff", "\x80", api.OK)
	for _, n := range []int{0, 1, 127, 128, 300, 65535, 65536} {
		text := strings.Repeat("\xc3", n)
		for _, left := range behind() {
			textTaken(t, plainPut(uint64(n))+text+left, text, left, api.OK)
		}
	}
}

// P3.2: Take's error comes first.
func TestTakeTextNumber(t *testing.T) {
	long := strings.Repeat("a", 70000)
	for _, s := range someBytes() {
		if _, _, e := plainTake(s); e != api.OK {
			textTaken(t, s, "", "", e)
		}
		if _, _, e := plainTake(s + long); e != api.OK {
			textTaken(t, s+long, "", "", e)
		}
	}
	textTaken(t, "", "", "", api.ErrMore)
	textTaken(t, "\x80", "", "", api.ErrMore)
	textTaken(t, "\x81\x00a", "", "", api.ErrForm)
	textTaken(t, strings.Repeat("\xff", 10)+"a", "", "", api.ErrRange)
}

// P3.2: a number above 65536 is refused, whether so many bytes are left or not; fewer bytes are told next.
func TestTakeTextLimit(t *testing.T) {
	long := strings.Repeat("a", 200000)
	for _, n := range []uint64{65537, 65538, 70000, 131072, 1<<31 - 1, 1 << 31, 1<<32 - 1, 1 << 32, 1<<32 + 1, 1<<63 - 1, 1 << 63, 1<<63 + 1, 1<<64 - 1} {
		for _, left := range []string{"", "a", long} {
			textTaken(t, plainPut(n)+left, "", "", api.ErrLimit)
		}
	}
	for _, n := range []int{1, 2, 127, 128, 300, 65535, 65536} {
		for _, short := range []int{0, n / 2, n - 1} {
			textTaken(t, plainPut(uint64(n))+long[:short], "", "", api.ErrMore)
		}
		textTaken(t, plainPut(uint64(n))+long[:n], long[:n], "", api.OK)
	}
}

// wrongWidths are ints that are no widths, below and above.
func wrongWidths() []int {
	return []int{0, -1, -2, -7, -8, -64, math.MinInt, math.MinInt + 1, 9, 10, 16, 64, 256 + 4, 1<<32 + 4, math.MaxInt}
}

// P3.3: the lowest bytes, the highest one first.
func TestFixed(t *testing.T) {
	for _, x := range []struct {
		n     uint64
		width int
		want  string
	}{
		{0, 1, "\x00"}, {0, 8, "\x00\x00\x00\x00\x00\x00\x00\x00"}, {1, 4, "\x00\x00\x00\x01"}, {258, 2, "\x01\x02"}, {258, 1, "\x02"}, {256, 1, "\x00"},
		{0x0102030405060708, 8, "\x01\x02\x03\x04\x05\x06\x07\x08"}, {0x0102030405060708, 3, "\x06\x07\x08"}, {1<<64 - 1, 5, "\xff\xff\xff\xff\xff"},
	} {
		if s := Fixed(x.n, x.width); s != x.want {
			t.Errorf("Fixed(%d, %d): %q, not %q", x.n, x.width, s, x.want)
		}
	}
	for _, n := range someNumbers() {
		for width := 1; width <= 8; width++ {
			if s, want := Fixed(n, width), plainFixed(n, width); s != want {
				t.Errorf("Fixed(%d, %d): %q, not %q", n, width, s, want)
			}
		}
	}
}

// P3.3: no bytes of a width that is none, and ErrArg, whatever bytes there are.
func TestWrongWidths(t *testing.T) {
	for _, width := range wrongWidths() {
		for _, n := range []uint64{0, 1, 258, 1 << 63, 1<<64 - 1} {
			if s := Fixed(n, width); s != "" {
				t.Errorf("Fixed(%d, %d): %q", n, width, s)
			}
		}
		for _, s := range []string{"", "a", "abcdefgh", strings.Repeat("\x00", 300)} {
			if n, left, e := TakeFixed(s, width); n != 0 || left != "" || e != api.ErrArg {
				t.Errorf("TakeFixed(%q, %d): %d, %q, error %d", s, width, n, left, e)
			}
		}
	}
}

// P3.3: fewer bytes than the width, as many, and more.
func TestTakeFixed(t *testing.T) {
	whole := "\x81\x02\xf3\x04\x85\x06\x77\xff\x00tail"
	for width := 1; width <= 8; width++ {
		for many := range len(whole) + 1 {
			s := whole[:many]
			n, left, e := TakeFixed(s, width)
			if many < width {
				if n != 0 || left != "" || e != api.ErrMore {
					t.Errorf("TakeFixed(%q, %d): %d, %q, error %d", s, width, n, left, e)
				}
				continue
			}
			want := new(big.Int).SetBytes([]byte(s[:width])).Uint64()
			if n != want || left != s[width:] || e != api.OK {
				t.Errorf("TakeFixed(%q, %d): %d, %q, error %d", s, width, n, left, e)
			}
		}
	}
	if n, left, e := TakeFixed("\xff\xff\xff\xff\xff\xff\xff\xff", 8); n != 1<<64-1 || left != "" || e != api.OK {
		t.Errorf("%d, %q, error %d", n, left, e)
	}
}

// someInts are those at both ends, about 0, and about each power of two.
func someInts() []int {
	l := []int{0, 1, -1, 2, -2, 63, 64, -64, -65, math.MaxInt, math.MaxInt - 1, math.MinInt, math.MinInt + 1, math.MinInt + 2}
	for _, n := range someNumbers() {
		l = append(l, int(n), -int(n))
	}
	return l
}

// P3.4: the chapter's examples, and ints at both ends.
func TestSignKnown(t *testing.T) {
	for _, x := range []struct {
		n    int
		want uint64
	}{
		{0, 0}, {-1, 1}, {1, 2}, {-2, 3}, {2, 4}, {-64, 127}, {64, 128}, {math.MaxInt, 1<<64 - 2}, {math.MinInt, 1<<64 - 1}, {math.MinInt + 1, 1<<64 - 3},
	} {
		if s := Sign(x.n); s != x.want {
			t.Errorf("Sign(%d): %d, not %d", x.n, s, x.want)
		}
		if n := Signed(x.want); n != x.n {
			t.Errorf("Signed(%d): %d, not %d", x.want, n, x.n)
		}
	}
}

// P3.4: ints of all sizes, and numbers likewise.
func TestSign(t *testing.T) {
	for _, n := range someInts() {
		s := Sign(n)
		if want := plainSign(n); s != want {
			t.Errorf("Sign(%d): %d, not %d", n, s, want)
		}
		if again := Signed(s); again != n {
			t.Errorf("Signed(%d): %d, not %d", s, again, n)
		}
	}
	for _, s := range someNumbers() {
		if again := Sign(Signed(s)); again != s {
			t.Errorf("Sign(Signed(%d)): %d", s, again)
		}
	}
}

// P3.5: a number that was put is taken again, whatever stands behind it.
func TestNumbersAgain(t *testing.T) {
	for _, n := range someNumbers() {
		for _, left := range behind() {
			taken(t, Put(n)+left, n, left, api.OK)
		}
	}
}

// P3.5: a number that is taken is what would be put.
func TestNumbersTakenOnly(t *testing.T) {
	for _, s := range someBytes() {
		if n, left, e := Take(s); e == api.OK && Put(n)+left != s {
			t.Errorf("Take(%q): %d, that is %q", s, n, Put(n))
		}
	}
	for n := range 1 << 16 {
		s := string([]byte{byte(n), byte(n >> 8)})
		if n, left, e := Take(s); e == api.OK && Put(n)+left != s {
			t.Errorf("Take(%q): %d, that is %q", s, n, Put(n))
		}
	}
}

// P3.5: texts that were put are taken again, and those that are taken would be put.
func TestTextsAgain(t *testing.T) {
	long := strings.Repeat("\x80\x00", 32768)
	for _, n := range []int{0, 1, 2, 10, 127, 128, 129, 300, 16383, 16384, 65535, 65536} {
		s, _ := Text(long[:n])
		for _, left := range behind() {
			textTaken(t, s+left, long[:n], left, api.OK)
		}
	}
	for _, s := range someBytes() {
		text, left, e := TakeText(s)
		if e != api.OK {
			continue
		}
		if again, e := Text(text); again+left != s || e != api.OK {
			t.Errorf("TakeText(%q): %q, that is %q, error %d", s, text, again, e)
		}
	}
}

// P3.5: numbers of each width that were put are taken again, what is left of them, and those that are taken would be put.
func TestFixedAgain(t *testing.T) {
	for _, n := range someNumbers() {
		for width := 1; width <= 8; width++ {
			low := n << (64 - 8*width) >> (64 - 8*width)
			s := Fixed(n, width)
			for _, left := range behind() {
				if a, b, e := TakeFixed(s+left, width); a != low || b != left || e != api.OK {
					t.Errorf("TakeFixed(%q, %d): %d, %q, error %d", s+left, width, a, b, e)
				}
			}
		}
	}
	for _, s := range someBytes() {
		for width := 1; width <= 8; width++ {
			if n, left, e := TakeFixed(s, width); e == api.OK && Fixed(n, width)+left != s {
				t.Errorf("TakeFixed(%q, %d): %d, that is %q", s, width, n, Fixed(n, width))
			}
		}
	}
}

// P3.5: the beginning of a number's bytes is no number.
func TestNoBeginnings(t *testing.T) {
	all := map[string]uint64{}
	for _, n := range someNumbers() {
		all[Put(n)] = n
	}
	for n := range uint64(40000) {
		all[Put(n)] = n
	}
	for s, n := range all {
		for i := range len(s) {
			if m, is := all[s[:i]]; is {
				t.Errorf("%d's bytes are the beginning of %d's", m, n)
			}
			taken(t, s[:i], 0, "", api.ErrMore)
		}
	}
}

// P3.5: a greater number has no fewer bytes.
func TestGreaterNoFewer(t *testing.T) {
	l := someNumbers()
	for _, a := range l[:600] {
		for _, b := range l {
			if a < b && len(Put(a)) > len(Put(b)) {
				t.Errorf("%d has %d bytes, %d has %d", a, len(Put(a)), b, len(Put(b)))
			}
		}
	}
	for n := range uint64(70000) {
		if len(Put(n)) > len(Put(n+1)) {
			t.Errorf("%d has %d bytes, %d more", n, len(Put(n)), len(Put(n+1)))
		}
	}
}

// P3.5: several things, one behind the other, are taken in their order.
func TestOneBehindTheOther(t *testing.T) {
	text, _ := Text("a text")
	s := Put(300) + text + Fixed(70000, 4) + Put(Sign(-5)) + "rest"
	n, s, e := Take(s)
	if n != 300 || e != api.OK {
		t.Errorf("%d, error %d", n, e)
	}
	text, s, e = TakeText(s)
	if text != "a text" || e != api.OK {
		t.Errorf("%q, error %d", text, e)
	}
	n, s, e = TakeFixed(s, 4)
	if n != 70000 || e != api.OK {
		t.Errorf("%d, error %d", n, e)
	}
	n, s, e = Take(s)
	if Signed(n) != -5 || s != "rest" || e != api.OK {
		t.Errorf("%d, %q, error %d", Signed(n), s, e)
	}
}
