package digest

import (
	"crypto/sha256"
	"encoding/hex"
	"math/big"
	"strings"
	"testing"

	"blackbox/api"
)

// mixed is a text of n bytes that follow no short pattern.
func mixed(n int) string {
	b := make([]byte, n)
	x := uint32(n)*2654435761 + 1
	for i := range b {
		x = x*1664525 + 1013904223
		b[i] = byte(x >> 24)
	}
	return string(b)
}

// primes are the first n of them.
func primes(n int) []int64 {
	var l []int64
	for p := int64(2); len(l) < n; p++ {
		if big.NewInt(p).ProbablyPrime(10) {
			l = append(l, p)
		}
	}
	return l
}

// rootBits are the 32 bits behind the point of p's root of that degree.
func rootBits(p int64, degree uint) uint64 {
	n := new(big.Int).Lsh(big.NewInt(p), 32*degree)
	low, high := big.NewInt(0), new(big.Int).Lsh(big.NewInt(1), 48)
	for {
		middle := new(big.Int).Add(low, high)
		middle.Rsh(middle, 1)
		if middle.Cmp(low) == 0 {
			return low.Uint64() % (1 << 32)
		}
		if new(big.Int).Exp(middle, big.NewInt(int64(degree)), nil).Cmp(n) <= 0 {
			low = middle
		} else {
			high = middle
		}
	}
}

// plainRounds are the constants of the rounds, worked out anew.
var plainRounds = func() (l [64]uint64) {
	for i, p := range primes(64) {
		l[i] = rootBits(p, 3)
	}
	return l
}()

// plainTurn is ROTR(w, n), by quotient and rest.
func plainTurn(w uint64, n uint) uint64 {
	part := uint64(1) << n
	return w/part + w%part*(1<<32/part)
}

func plainOne(x uint64, n, m, k uint) uint64 {
	return plainTurn(x, n) ^ plainTurn(x, m) ^ plainTurn(x, k)
}

// plainBlock is P2.3, word by word, in numbers of 64 bits.
func plainBlock(h [8]uint32, block string) [8]uint32 {
	const all = 1 << 32
	var w [64]uint64
	for t := range w {
		if t < 16 {
			for i := range 4 {
				w[t] = w[t]*256 + uint64(block[4*t+i])
			}
			continue
		}
		s0 := plainTurn(w[t-15], 7) ^ plainTurn(w[t-15], 18) ^ w[t-15]/8
		s1 := plainTurn(w[t-2], 17) ^ plainTurn(w[t-2], 19) ^ w[t-2]/1024
		w[t] = (w[t-16] + s0 + w[t-7] + s1) % all
	}
	var v [8]uint64
	for i := range v {
		v[i] = uint64(h[i])
	}
	for t := range w {
		one := v[7] + plainOne(v[4], 6, 11, 25) + (v[4]&v[5] ^ (all-1-v[4])&v[6]) + plainRounds[t] + w[t]
		two := plainOne(v[0], 2, 13, 22) + (v[0]&v[1] ^ v[0]&v[2] ^ v[1]&v[2])
		copy(v[1:], v[:7])
		v[4] = (v[4] + one) % all
		v[0] = (one + two) % all
	}
	for i := range h {
		h[i] = uint32((uint64(h[i]) + v[i]) % all)
	}
	return h
}

// plainAdd is P2.2.
func plainAdd(s api.State, b string) api.State {
	text := s.Rest + b
	h, at := s.H, 0
	for ; len(text)-at >= 64; at += 64 {
		h = plainBlock(h, text[at:at+64])
	}
	return api.State{H: h, N: s.N + uint64(len(b)), Rest: text[at:]}
}

// plainEnd is P2.4.
func plainEnd(s api.State) api.Digest {
	pad := "\x80"
	for (len(s.Rest)+len(pad))%64 != 56 {
		pad += "\x00"
	}
	var n [8]byte
	new(big.Int).SetUint64(s.N * 8).FillBytes(n[:])
	var d api.Digest
	for i, w := range plainAdd(s, pad+string(n[:])).H {
		big.NewInt(int64(w)).FillBytes(d[4*i : 4*i+4])
	}
	return d
}

// someWords are words H with no bits, all, and mixed ones.
func someWords() [][8]uint32 {
	none, all, ends := [8]uint32{}, [8]uint32{}, [8]uint32{}
	for i := range 8 {
		all[i] = 1<<32 - 1
		ends[i] = 1<<31 | 1
	}
	return [][8]uint32{Start().H, none, all, ends, {1, 2, 3, 4, 5, 6, 7, 8}, {0xdeadbeef, 0, 1 << 31, 0xffffffff, 0x80000001, 7, 0x55555555, 0xaaaaaaaa}}
}

// someStates are states with a Rest of any length, whose N need not fit it.
func someStates() []api.State {
	var l []api.State
	for i, h := range someWords() {
		for k, n := range []int{0, 1, 17, 55, 56, 63, 64, 65, 119, 120, 127, 128, 129, 200, 640, 1000} {
			many := []uint64{uint64(n), 0, 5, 1<<61 - 1, 1 << 61, 1<<64 - 1, 1<<64 - 64}[(i+k)%7]
			l = append(l, api.State{H: h, N: many, Rest: mixed(n)})
		}
	}
	return l
}

// edges are lengths about the edges of a block.
func edges() []int {
	return []int{0, 1, 2, 7, 8, 9, 54, 55, 56, 57, 62, 63, 64, 65, 66, 118, 119, 120, 121, 126, 127, 128, 129, 191, 192, 193, 256, 1000}
}

// P2.1: the state at the start.
func TestStart(t *testing.T) {
	want := api.State{H: [8]uint32{0x6a09e667, 0xbb67ae85, 0x3c6ef372, 0xa54ff53a, 0x510e527f, 0x9b05688c, 0x1f83d9ab, 0x5be0cd19}}
	if s := Start(); s != want {
		t.Errorf("Start: %#v", s)
	}
	for i, p := range primes(8) {
		if w := Start().H[i]; uint64(w) != rootBits(p, 2) {
			t.Errorf("word %d: %08x, not the root of %d", i, w, p)
		}
	}
}

// P2.2: no bytes leave a state as it is, whose Rest has less than a block.
func TestAddNothing(t *testing.T) {
	for _, s := range someStates() {
		if len(s.Rest) >= 64 {
			continue
		}
		if a := Add(s, ""); a != s {
			t.Errorf("Rest of %d bytes: %#v", len(s.Rest), a)
		}
	}
}

// P2.2: where less than a block is there, the bytes stand behind Rest, and H stays.
func TestAddLittle(t *testing.T) {
	s := Add(Add(Start(), "ab"), "\x00\xff")
	want := api.State{H: Start().H, N: 4, Rest: "ab\x00\xff"}
	if s != want {
		t.Errorf("%#v", s)
	}
	s = Add(s, mixed(59))
	if s.H != Start().H || s.N != 63 || s.Rest != "ab\x00\xff"+mixed(59) {
		t.Errorf("63 bytes: %#v", s)
	}
	s = Add(s, "c")
	if s.H == Start().H || s.N != 64 || s.Rest != "" {
		t.Errorf("64 bytes: %#v", s)
	}
}

// P2.2: a Rest of a block and more is worked off, even if no bytes are added.
func TestAddLongRest(t *testing.T) {
	for _, h := range someWords() {
		for _, n := range []int{64, 65, 127, 128, 129, 1000} {
			rest := mixed(n)
			s := Add(api.State{H: h, N: 3, Rest: rest}, "")
			if s.N != 3 || s.Rest != rest[n/64*64:] {
				t.Errorf("Rest of %d bytes: N %d, %d bytes left", n, s.N, len(s.Rest))
			}
			want := h
			for i := range n / 64 {
				want = plainBlock(want, rest[64*i:64*i+64])
			}
			if s.H != want {
				t.Errorf("Rest of %d bytes: %08x, not %08x", n, s.H, want)
			}
		}
	}
}

// P2.2: any state, with texts about the edges of a block.
func TestAdd(t *testing.T) {
	for _, s := range someStates() {
		for _, n := range edges() {
			b := mixed(n)
			if a, want := Add(s, b), plainAdd(s, b); a != want {
				t.Fatalf("Rest of %d bytes, N %d, %d bytes added: %#v, not %#v", len(s.Rest), s.N, n, a, want)
			}
		}
	}
}

// P2.2: N tells how many bytes were added, not how many Rest has, as a number of 64 bits.
func TestAddCounts(t *testing.T) {
	for _, x := range []struct {
		n    uint64
		b    string
		want uint64
	}{
		{0, "abc", 3}, {7, "", 7}, {7, mixed(64), 71}, {1<<64 - 1, "", 1<<64 - 1}, {1<<64 - 1, "a", 0}, {1<<64 - 1, mixed(100), 99}, {1<<63 - 1, "a", 1 << 63},
	} {
		if s := Add(api.State{N: x.n, Rest: "rest"}, x.b); s.N != x.want {
			t.Errorf("N %d, %d bytes: %d", x.n, len(x.b), s.N)
		}
	}
}

// P2.2: a text is bytes, whether it is right as runes or not.
func TestAddBytesNotRunes(t *testing.T) {
	if a, b := Add(Start(), "\u00e9"), Add(Start(), "\xc3\xa9"); a != b || a.N != 2 {
		t.Errorf("%#v, %#v", a, b)
	}
	if Of("\xff") == Of("\xfe") || Of("\xff") == Of("\ufffd") {
		t.Error("no runes: the same sum")
	}
}

// P2.3: blocks with each single bit, with none and with all, on words of many kinds.
func TestBlocks(t *testing.T) {
	blocks := []string{strings.Repeat("\x00", 64), strings.Repeat("\xff", 64), strings.Repeat("\x80\x00\x00\x01", 16), mixed(64)}
	for i := range 512 {
		b := make([]byte, 64)
		b[i/8] = 1 << (i % 8)
		blocks = append(blocks, string(b))
	}
	for _, h := range someWords() {
		for i, b := range blocks {
			if a, want := Add(api.State{H: h}, b).H, plainBlock(h, b); a != want {
				t.Fatalf("%08x, block %d: %08x, not %08x", h, i, a, want)
			}
		}
	}
}

// P2.3: two blocks in their order, each on what the one ahead left.
func TestBlocksInOrder(t *testing.T) {
	a, b := mixed(64), strings.Repeat("b", 64)
	if x, y := Add(Start(), a+b).H, Add(Start(), b+a).H; x == y {
		t.Errorf("both orders: %08x", x)
	}
	if x, want := Add(Start(), a+b).H, plainBlock(plainBlock(Start().H, a), b); x != want {
		t.Errorf("%08x, not %08x", x, want)
	}
}

// P2.4: any state ends as the words of the promise say.
func TestEnd(t *testing.T) {
	for _, s := range someStates() {
		if d, want := End(s), plainEnd(s); d != want {
			t.Errorf("Rest of %d bytes, N %d: %x, not %x", len(s.Rest), s.N, d, want)
		}
	}
	for n := range 260 {
		s := api.State{H: Start().H, N: 12345, Rest: mixed(n)}
		if d, want := End(s), plainEnd(s); d != want {
			t.Errorf("Rest of %d bytes: %x, not %x", n, d, want)
		}
	}
}

// P2.4: N is told in 64 bits, eight times, and what is above is left out.
func TestEndCounts(t *testing.T) {
	with := func(n uint64) api.Digest { return End(api.State{H: Start().H, N: n, Rest: "abc"}) }
	if with(3) != Of("abc") {
		t.Errorf("N 3: %x", with(3))
	}
	for _, n := range []uint64{1 << 61, 1 << 62, 7 << 61} {
		if with(n+3) != with(3) {
			t.Errorf("N 3 and %d: %x", n, with(n+3))
		}
	}
	seen := map[api.Digest]int{}
	for i := range 61 {
		d := with(1 << i)
		if k, twice := seen[d]; twice {
			t.Errorf("N of the bits %d and %d: the same sum", i, k)
		}
		seen[d] = i
		if want := plainEnd(api.State{H: Start().H, N: 1 << i, Rest: "abc"}); d != want {
			t.Errorf("N of the bit %d: %x, not %x", i, d, want)
		}
	}
}

// P2.4: the chapter's examples, and sums that are known elsewhere.
func TestOfKnown(t *testing.T) {
	for _, x := range []struct{ b, want string }{
		{"abc", "ba7816bf8f01cfea414140de5dae2223b00361a396177a9cb410ff61f20015ad"},
		{"", "e3b0c44298fc1c149afbf4c8996fb92427ae41e4649b934ca495991b7852b855"},
		{"abcdbcdecdefdefgefghfghighijhijkijkljklmklmnlmnomnopnopq", "248d6a61d20638b8e5c026930c3e6039a33ce45964ff2167f6ecedd419db06c1"},
		{"abcdefghbcdefghicdefghijdefghijkefghijklfghijklmghijklmnhijklmnoijklmnopjklmnopqklmnopqrlmnopqrsmnopqrstnopqrstu", "cf5b16a778af8380036ce59e7b0492370b249b11e8f07a51afac45037afee9d1"},
		{strings.Repeat("a", 1000000), "cdc76e5c9914fb9281a1c7e284d73e67f1809a48a497200e046d39ccc7112cd0"},
		{"\xbd", "68325720aabd7c82f30f554b313d0570c95accbb7dc4b5aae11204c08ffe732b"},
	} {
		if s := Hex(Of(x.b)); s != x.want {
			t.Errorf("%d bytes: %s, not %s", len(x.b), s, x.want)
		}
	}
}

// P2.4: texts of each length up to some blocks, against the library; Of is End of Add of Start.
func TestOf(t *testing.T) {
	for n := range 400 {
		b := mixed(n)
		d := Of(b)
		if d != sha256.Sum256([]byte(b)) {
			t.Errorf("%d bytes: %x is not the library's", n, d)
		}
		if want := End(Add(Start(), b)); d != want {
			t.Errorf("%d bytes: %x, not %x", n, d, want)
		}
	}
	for _, n := range []int{4095, 4096, 65536, 300001} {
		if b := mixed(n); Of(b) != sha256.Sum256([]byte(b)) {
			t.Errorf("%d bytes: not the library's", n)
		}
	}
}

// P2.4: a sum hangs on the bytes alone, whatever was asked between.
func TestOfAgain(t *testing.T) {
	first := Of("abc")
	s := Add(Start(), mixed(40))
	a, b := Add(s, mixed(30)), Add(s, "other bytes that go on from the same state")
	End(a)
	if again := Of("abc"); again != first {
		t.Errorf("%x, then %x", first, again)
	}
	if End(a) != Of(mixed(40)+mixed(30)) || End(b) != Of(mixed(40)+"other bytes that go on from the same state") {
		t.Error("two that go on from one state are not apart")
	}
	if s.N != 40 || s.Rest != mixed(40) || s.H != Start().H {
		t.Errorf("the state that was handed in: %#v", s)
	}
}

// P2.4: Two is Of of both, one behind the other.
func TestTwo(t *testing.T) {
	for _, n := range edges() {
		for _, m := range edges() {
			a, b := mixed(n), mixed(m)
			if d, want := Two(a, b), sha256.Sum256([]byte(a+b)); d != want {
				t.Errorf("%d and %d bytes: %x, not %x", n, m, d, want)
			}
		}
	}
	if Two("a", "b") == Two("b", "a") || Two("ab", "c") != Two("a", "bc") || Two("", "") != Of("") {
		t.Error("the order matters, and where the second one begins does not")
	}
}

// P2.5: two signs of each byte, the higher four bits first.
func TestHex(t *testing.T) {
	var d api.Digest
	if s := Hex(d); s != strings.Repeat("0", 64) {
		t.Errorf("no bits: %s", s)
	}
	for i := range d {
		d[i] = byte(i*8 + 7)
	}
	if s := Hex(d); s != "070f171f272f373f474f575f676f777f878f979fa7afb7bfc7cfd7dfe7eff7ff" {
		t.Errorf("%s", s)
	}
	for c := range 256 {
		for i := range d {
			d[i] = byte(c + 37*i)
		}
		if s, want := Hex(d), hex.EncodeToString(d[:]); s != want {
			t.Errorf("%s, not %s", s, want)
		}
	}
}

// P2.5, P2.6: what is told by Hex is read again.
func TestReadHex(t *testing.T) {
	for c := range 256 {
		var d api.Digest
		for i := range d {
			d[i] = byte(c + 101*i)
		}
		if r, e := Read(Hex(d)); r != d || e != api.OK {
			t.Errorf("%x: %x, error %d", d, r, e)
		}
	}
	for _, b := range []string{"", "abc", mixed(100)} {
		d := Of(b)
		if r, e := Read(Hex(d)); r != d || e != api.OK {
			t.Errorf("%x: %x, error %d", d, r, e)
		}
	}
}

// P2.5: what is read is what Hex would tell.
func TestReadKnown(t *testing.T) {
	s := "0123456789abcdeffedcba9876543210" + "00ff10f0a50f5a9bc8d7e6f102030405"
	d, e := Read(s)
	if want, _ := hex.DecodeString(s); string(d[:]) != string(want) || e != api.OK {
		t.Errorf("%x, error %d", d, e)
	}
	if again := Hex(d); again != s {
		t.Errorf("%s", again)
	}
}

// refused tells of a text that Read does not refuse as it should.
func refused(t *testing.T, s string) {
	t.Helper()
	if d, e := Read(s); d != (api.Digest{}) || e != api.ErrForm {
		t.Errorf("Read(%q): %x, error %d", s, d, e)
	}
}

// P2.5: texts of other lengths than 64.
func TestReadLengths(t *testing.T) {
	for n := range 200 {
		if n != 64 {
			refused(t, strings.Repeat("a", n))
		}
	}
	s := Hex(Of("abc"))
	for _, w := range []string{s + "0", s + " ", " " + s, s + "\n", s[:63], s[1:], s + s, "0x" + s[2:], "0x" + s} {
		refused(t, w)
	}
}

// P2.5: each byte value at each place: only 0 to 9 and a to f are signs.
func TestReadSigns(t *testing.T) {
	s := Hex(Of("abc"))
	for i := range s {
		for c := range 256 {
			w := s[:i] + string([]byte{byte(c)}) + s[i+1:]
			if c >= '0' && c <= '9' || c >= 'a' && c <= 'f' {
				if d, e := Read(w); e != api.OK || Hex(d) != w {
					t.Errorf("Read(%q): %x, error %d", w, d, e)
				}
				continue
			}
			refused(t, w)
		}
	}
	refused(t, strings.ToUpper(s))
	refused(t, strings.Repeat("\u00e9", 32))
	refused(t, strings.Repeat("\u00e9", 64))
	refused(t, strings.Repeat("\x00", 64))
}

// P2.6: bytes added in two pieces make the state of the whole, from any state, cut at any place.
func TestTwoPieces(t *testing.T) {
	b := mixed(200)
	for _, s := range someStates() {
		whole := Add(s, b)
		for i := range len(b) + 1 {
			if a := Add(Add(s, b[:i]), b[i:]); a != whole {
				t.Fatalf("Rest of %d bytes, cut at %d: %#v, not %#v", len(s.Rest), i, a, whole)
			}
		}
	}
}

// P2.6: so do bytes that are added one by one.
func TestManyPieces(t *testing.T) {
	b := mixed(500)
	s := Start()
	for i := range len(b) {
		s = Add(s, b[i:i+1])
		if want := Add(Start(), b[:i+1]); s != want {
			t.Fatalf("%d bytes: %#v, not %#v", i+1, s, want)
		}
	}
	if End(s) != Of(b) {
		t.Errorf("%x", End(s))
	}
}
