package area

import (
	"math"
	"math/big"
	"strconv"
	"strings"
	"testing"

	"blackbox/api"
	"blackbox/sector"
)

// space is what an Area and a plain form of the promises have in common.
type space interface {
	Len() int
	Get(at, n int) (string, api.Errno)
	Put(at int, b string) api.Errno
	Sync() api.Errno
}

// plain is the promises, as they are told: it looks at each place of each sector.
type plain struct {
	d          *sector.Disk
	from, many int
}

func (p plain) size() int {
	_, n := p.d.Size()
	return n
}

func (p plain) Len() int { return p.many * p.size() }

func (p plain) Sync() api.Errno { return p.d.Flush() }

// beyond tells, in numbers without bounds, of places that are not all among so many.
func beyond(at, n, most int) bool {
	end := new(big.Int).Add(big.NewInt(int64(at)), big.NewInt(int64(n)))
	return at < 0 || n < 0 || end.Cmp(big.NewInt(int64(most))) > 0
}

func (p plain) Get(at, n int) (string, api.Errno) {
	if beyond(at, n, p.Len()) {
		return "", api.ErrRange
	}
	var b []byte
	for i := range p.many {
		s := ""
		for j := range p.size() {
			place := i*p.size() + j
			if place < at || place >= at+n {
				continue
			}
			if s == "" {
				var e api.Errno
				if s, e = p.d.Read(p.from + i); e != api.OK {
					return "", e
				}
			}
			b = append(b, s[j])
		}
	}
	return string(b), api.OK
}

func (p plain) Put(at int, b string) api.Errno {
	if beyond(at, len(b), p.Len()) {
		return api.ErrRange
	}
	for i := range p.many {
		var mine []int
		for j := range p.size() {
			if place := i*p.size() + j; place >= at && place < at+len(b) {
				mine = append(mine, j)
			}
		}
		if len(mine) == 0 {
			continue
		}
		s := zeros(p.size())
		if len(mine) < p.size() {
			var e api.Errno
			if s, e = p.d.Read(p.from + i); e != api.OK {
				return e
			}
		}
		l := []byte(s)
		for _, j := range mine {
			l[j] = b[i*p.size()+j-at]
		}
		if e := p.d.Write(p.from+i, string(l)); e != api.OK {
			return e
		}
	}
	return api.OK
}

func zeros(many int) string { return strings.Repeat("\x00", many) }

// filled is many bytes of a sign.
func filled(sign string, many int) string { return strings.Repeat(sign, many) }

// mixed is many bytes that differ, and from those of another n.
func mixed(n, many int) string {
	b := make([]byte, many)
	for i := range b {
		b[i] = byte(n*37 + i*5 + i/51 + 1)
	}
	return string(b)
}

// is tells of a call's error that is not the one it should be.
func is(t *testing.T, what string, e, want api.Errno) {
	t.Helper()
	if e != want {
		t.Errorf("%s: error %d, not %d", what, e, want)
	}
}

// diskOf is a disk of these bytes, of which nothing is pending, or the test ends.
func diskOf(t *testing.T, size int, image string) *sector.Disk {
	t.Helper()
	d, e := sector.New(len(image)/size, size)
	if e != api.OK {
		t.Fatalf("a disk of %d bytes: error %d", len(image), e)
	}
	for at := 0; at < len(image); at += size {
		if e := d.Write(at/size, image[at:at+size]); e != api.OK {
			t.Fatalf("Write: error %d", e)
		}
	}
	if e := d.Flush(); e != api.OK {
		t.Fatalf("Flush: error %d", e)
	}
	return d
}

// made is a new area, or the test ends.
func made(t *testing.T, d *sector.Disk, from, many int) *Area {
	t.Helper()
	a, e := New(d, from, many)
	if e != api.OK || a == nil {
		t.Fatalf("New(%d, %d): %v, error %d", from, many, a, e)
	}
	return a
}

// gets tells of places that are got otherwise.
func gets(t *testing.T, a space, at, n int, want string, e api.Errno) {
	t.Helper()
	if s, f := a.Get(at, n); s != want || f != e {
		t.Errorf("Get(%d, %d): %q, error %d, not %q, error %d", at, n, s, f, want, e)
	}
}

// puts tells of a Put that answers otherwise.
func puts(t *testing.T, a space, at int, b string, want api.Errno) {
	t.Helper()
	if e := a.Put(at, b); e != want {
		t.Errorf("Put(%d) of %d bytes: error %d, not %d", at, len(b), e, want)
	}
}

// tells tells of a disk that has another image, or other writes that are pending.
func tells(t *testing.T, d *sector.Disk, pending int, image string) {
	t.Helper()
	if n := d.Pending(); n != pending {
		t.Errorf("Pending: %d, not %d", n, pending)
	}
	if s := d.Image(); s != image {
		t.Errorf("Image: %q, not %q", s, image)
	}
}

// all has of so many pending writes all kept.
func all(many int) []bool {
	l := make([]bool, many)
	for i := range l {
		l[i] = true
	}
	return l
}

// left is how many calls more the disk lets be done, up to 30; it is down then, or was not to be.
func left(d *sector.Disk) int {
	for n := range 30 {
		if _, e := d.Read(0); e != api.OK {
			return n
		}
	}
	return 30
}

// takes tells of a call that takes more or fewer calls of the disk than it should.
func takes(t *testing.T, d *sector.Disk, what string, calls int, do func()) {
	t.Helper()
	is(t, "Break", d.Break(20), api.OK)
	do()
	if n := 20 - left(d); n != calls {
		t.Errorf("%s: %d calls of the disk, not %d", what, n, calls)
	}
}

// P8.1: of a nil disk no area is made, whatever else is wrong.
func TestNewOfNil(t *testing.T) {
	for _, from := range []int{math.MinInt, -1, 0, 1, math.MaxInt} {
		for _, many := range []int{math.MinInt, -1, 0, 1, 2, math.MaxInt} {
			if a, e := New(nil, from, many); a != nil || e != api.ErrNil {
				t.Errorf("New(nil, %d, %d): %v, error %d", from, many, a != nil, e)
			}
		}
	}
}

// P8.1: sectors that the disk has, in part, or not at all; and numbers whose sum can't be told.
func TestNew(t *testing.T) {
	for _, all := range []int{1, 2, 3, 100, 4096} {
		d := diskOf(t, 64, zeros(64*all))
		numbers := []int{math.MinInt, math.MinInt + 1, math.MinInt + all, -1 << 32, -all - 1, -all, -2, -1, 0, 1, 2, 3, all / 2, all - 2, all - 1, all, all + 1, 2 * all, 1 << 32, math.MaxInt/2 + 1, math.MaxInt - all, math.MaxInt - 2, math.MaxInt - 1, math.MaxInt}
		for _, from := range numbers {
			for _, many := range numbers {
				a, e := New(d, from, many)
				if many < 1 || beyond(from, many, all) {
					if a != nil || e != api.ErrArg {
						t.Errorf("New(%d, %d) of %d sectors: %v, error %d", from, many, all, a != nil, e)
					}
					continue
				}
				if a == nil || e != api.OK {
					t.Fatalf("New(%d, %d) of %d sectors: %v, error %d", from, many, all, a != nil, e)
				}
				if a.Len() != 64*many {
					t.Errorf("Len of New(%d, %d): %d", from, many, a.Len())
				}
			}
		}
	}
}

// P8.1: New and Len call nothing that a Break counts, and can be called of a disk that is down.
func TestNewOfDown(t *testing.T) {
	image := mixed(1, 192)
	d := diskOf(t, 64, image)
	is(t, "Write", d.Write(1, mixed(2, 64)), api.OK)
	is(t, "Break", d.Break(1), api.OK)
	for range 5 {
		if n := made(t, d, 1, 2).Len(); n != 128 {
			t.Errorf("Len: %d", n)
		}
	}
	if n := left(d); n != 1 {
		t.Errorf("New and Len: %d calls are left, not 1", n)
	}
	a := made(t, d, 1, 1)
	if n := a.Len(); n != 64 {
		t.Errorf("Len, down: %d", n)
	}
	for _, x := range [][2]int{{0, 0}, {0, 4}, {3, 1}, {-1, 1}} {
		if b, e := New(d, x[0], x[1]); b != nil || e != api.ErrArg {
			t.Errorf("New(%d, %d), down: %v, error %d", x[0], x[1], b != nil, e)
		}
	}
	tells(t, d, 1, image)
}

// P8.1: how many bytes an area has hangs on its sectors' size, and on nothing that is done.
func TestLen(t *testing.T) {
	for _, size := range []int{64, 65, 77, 1023, 1024} {
		for _, many := range []int{1, 2, 3, 9} {
			d := diskOf(t, size, zeros(10*size))
			a := made(t, d, 1, many)
			lasts := func() {
				t.Helper()
				if n := a.Len(); n != many*size {
					t.Errorf("Len of %d sectors of %d bytes: %d", many, size, n)
				}
			}
			lasts()
			puts(t, a, many*size-1, "z", api.OK)
			puts(t, a, many*size, "z", api.ErrRange)
			lasts()
			is(t, "Break", d.Break(0), api.OK)
			lasts()
			is(t, "Crash", d.Crash(nil, -1), api.OK)
			lasts()
		}
	}
}

// A nil area, at each call: ErrNil is told ahead of what else is wrong.
func TestNil(t *testing.T) {
	var a *Area
	if n := a.Len(); n != 0 {
		t.Errorf("Len of a nil area: %d", n)
	}
	for _, at := range []int{math.MinInt, -1, 0, 1, math.MaxInt} {
		for _, n := range []int{math.MinInt, -1, 0, 1, math.MaxInt} {
			gets(t, a, at, n, "", api.ErrNil)
		}
		for _, b := range []string{"", "a", zeros(64)} {
			puts(t, a, at, b, api.ErrNil)
		}
	}
	is(t, "Sync of a nil area", a.Sync(), api.ErrNil)
}

// R1: an area that was not made by New, and a disk that was not, have no bytes, and no call of them panics.
func TestNotMade(t *testing.T) {
	a := &Area{}
	if n := a.Len(); n != 0 {
		t.Errorf("Len: %d", n)
	}
	gets(t, a, 0, 0, "", api.OK)
	gets(t, a, 0, 1, "", api.ErrRange)
	puts(t, a, 0, "", api.OK)
	puts(t, a, 0, "a", api.ErrRange)
	is(t, "Sync", a.Sync(), api.ErrNil)
	for _, x := range [][2]int{{0, 0}, {0, 1}, {1, 1}, {-1, 1}, {-1, 2}} {
		if b, e := New(&sector.Disk{}, x[0], x[1]); b != nil || e != api.ErrArg {
			t.Errorf("New(%d, %d) of a disk without sectors: %v, error %d", x[0], x[1], b != nil, e)
		}
	}
}

// cases are places of an area of three sectors of 64 bytes, and what is to be done for them: how many sectors have some of them, and of how many of these not all bytes are among them.
var cases = []struct {
	at, n      int
	some, part int
}{
	{0, 0, 0, 0}, {1, 0, 0, 0}, {63, 0, 0, 0}, {64, 0, 0, 0}, {100, 0, 0, 0}, {128, 0, 0, 0}, {191, 0, 0, 0}, {192, 0, 0, 0},
	{0, 1, 1, 1}, {63, 1, 1, 1}, {64, 1, 1, 1}, {100, 1, 1, 1}, {127, 1, 1, 1}, {128, 1, 1, 1}, {191, 1, 1, 1},
	{0, 2, 1, 1}, {62, 2, 1, 1}, {63, 2, 2, 2}, {64, 2, 1, 1}, {127, 2, 2, 2}, {190, 2, 1, 1},
	{0, 63, 1, 1}, {1, 63, 1, 1}, {1, 62, 1, 1}, {64, 63, 1, 1}, {65, 63, 1, 1}, {129, 63, 1, 1}, {10, 20, 1, 1}, {80, 40, 1, 1},
	{0, 64, 1, 0}, {64, 64, 1, 0}, {128, 64, 1, 0}, {1, 64, 2, 2}, {63, 64, 2, 2}, {65, 64, 2, 2}, {127, 64, 2, 2},
	{0, 65, 2, 1}, {63, 65, 2, 1}, {64, 65, 2, 1}, {127, 65, 2, 1}, {62, 65, 2, 2}, {1, 65, 2, 2}, {63, 66, 3, 2},
	{0, 127, 2, 1}, {1, 127, 2, 1}, {1, 126, 2, 2}, {65, 127, 2, 1}, {65, 126, 2, 2},
	{0, 128, 2, 0}, {64, 128, 2, 0}, {1, 128, 3, 2}, {63, 128, 3, 2}, {63, 129, 3, 1}, {32, 128, 3, 2},
	{0, 129, 3, 1}, {0, 191, 3, 1}, {1, 191, 3, 1}, {1, 190, 3, 2}, {0, 192, 3, 0},
}

// P8.2: bytes of no, one and several sectors; each sector that has some of them is read, and no other one.
func TestGet(t *testing.T) {
	image := mixed(3, 320)
	for _, x := range cases {
		d := diskOf(t, 64, image)
		a := made(t, d, 1, 3)
		want := image[64+x.at : 64+x.at+x.n]
		gets(t, a, x.at, x.n, want, api.OK)
		what := "Get(" + strconv.Itoa(x.at) + ", " + strconv.Itoa(x.n) + ")"
		takes(t, d, what, x.some, func() { gets(t, a, x.at, x.n, want, api.OK) })
		for n := range 5 {
			is(t, "Break", d.Break(n), api.OK)
			if n < x.some {
				gets(t, a, x.at, x.n, "", api.ErrDown)
			} else {
				gets(t, a, x.at, x.n, want, api.OK)
			}
		}
		tells(t, d, 0, image)
	}
}

// P8.3: bytes put in no, one and several sectors; a sector is read just where not all of its bytes are put; and no byte beside them is changed.
func TestPut(t *testing.T) {
	image := mixed(3, 320)
	for _, x := range cases {
		d := diskOf(t, 64, image)
		a := made(t, d, 1, 3)
		b := mixed(9, x.n)
		what := "Put(" + strconv.Itoa(x.at) + ") of " + strconv.Itoa(x.n)
		takes(t, d, what, x.some+x.part, func() { puts(t, a, x.at, b, api.OK) })
		tells(t, d, x.some, image)
		is(t, "Crash", d.Crash(all(x.some), -1), api.OK)
		tells(t, d, 0, image[:64+x.at]+b+image[64+x.at+x.n:])
		gets(t, a, x.at, x.n, b, api.OK)
		gets(t, a, 0, x.at, image[64:64+x.at], api.OK)
		gets(t, a, x.at+x.n, 192-x.at-x.n, image[64+x.at+x.n:256], api.OK)
	}
}

// P8.2 and P8.3: places that the area has not all, told ahead of a disk that is down; what is refused calls nothing.
func TestRange(t *testing.T) {
	image := mixed(3, 320)
	d := diskOf(t, 64, image)
	a := made(t, d, 1, 3)
	places := []int{math.MinInt, math.MinInt + 1, -1 << 40, -193, -192, -191, -64, -2, -1, 0, 1, 63, 64, 65, 127, 128, 190, 191, 192, 193, 194, 256, 320, 1 << 32, math.MaxInt/2 + 1, math.MaxInt - 192, math.MaxInt - 191, math.MaxInt - 1, math.MaxInt}
	for _, at := range places {
		for _, n := range places {
			if !beyond(at, n, 192) {
				gets(t, a, at, n, image[64+at:64+at+n], api.OK)
				continue
			}
			takes(t, d, "Get beyond", 0, func() { gets(t, a, at, n, "", api.ErrRange) })
			is(t, "Break", d.Break(0), api.OK)
			gets(t, a, at, n, "", api.ErrRange)
			is(t, "Crash", d.Crash(nil, -1), api.OK)
		}
		for n := range 260 {
			if !beyond(at, n, 192) {
				continue
			}
			is(t, "Break", d.Break(0), api.OK)
			puts(t, a, at, filled("z", n), api.ErrRange)
			is(t, "Break", d.Break(1), api.OK)
			puts(t, a, at, filled("z", n), api.ErrRange)
			gets(t, a, 0, 1, image[64:65], api.OK)
			is(t, "Crash", d.Crash(nil, -1), api.OK)
		}
	}
	tells(t, d, 0, image)
}

// P8.2 and P8.3: of no bytes no sector is read or written, also when the disk is down.
func TestNoBytes(t *testing.T) {
	image := mixed(3, 320)
	d := diskOf(t, 64, image)
	a := made(t, d, 1, 3)
	for at := range 193 {
		for n := range 2 {
			is(t, "Break", d.Break(n), api.OK)
			gets(t, a, at, 0, "", api.OK)
			puts(t, a, at, "", api.OK)
			if more := left(d); more != n {
				t.Errorf("of no bytes at %d: %d calls are left, not %d", at, more, n)
			}
			gets(t, a, at, 0, "", api.OK)
			puts(t, a, at, "", api.OK)
		}
	}
	for _, at := range []int{-1, 193, math.MinInt, math.MaxInt} {
		gets(t, a, at, 0, "", api.ErrRange)
		puts(t, a, at, "", api.ErrRange)
	}
	tells(t, d, 0, image)
}

// P8.3: a Put that the disk's going down stops has put the first sectors' bytes, and no others; these are pending.
func TestPutIsStopped(t *testing.T) {
	image, b := mixed(3, 320), mixed(9, 130)
	// The places are the last byte of the area's first sector, all of the next two, and the first one of the fourth.
	want := []struct{ wrote, bytes int }{{0, 0}, {0, 0}, {1, 1}, {2, 65}, {3, 129}, {3, 129}, {4, 130}, {4, 130}}
	for n, x := range want {
		for _, crash := range []bool{false, true} {
			d := diskOf(t, 64, image)
			a := made(t, d, 1, 4)
			is(t, "Break", d.Break(n), api.OK)
			e := api.ErrDown
			if n >= 6 {
				e = api.OK
			}
			puts(t, a, 63, b, e)
			tells(t, d, x.wrote, image)
			is(t, "Break", d.Break(99), api.OK)
			whole := image[:127] + b[:x.bytes] + image[127+x.bytes:]
			gets(t, a, 0, 256, whole[64:], api.OK)
			if crash {
				is(t, "Crash", d.Crash(all(x.wrote), -1), api.OK)
			} else {
				is(t, "Sync", a.Sync(), api.OK)
			}
			tells(t, d, 0, whole)
			gets(t, a, 0, 256, whole[64:], api.OK)
		}
	}
}

// P8.3: what is put is pending, in the sectors' order, and a crash may lose and tear it.
func TestPutIsPending(t *testing.T) {
	image, b := filled("o", 256), mixed(9, 192)
	for keep := range 8 {
		for _, torn := range []int{-1, 0, 1, 40, 63, 64} {
			d := diskOf(t, 64, image)
			a := made(t, d, 1, 3)
			puts(t, a, 0, b, api.OK)
			var l []bool
			last := -1
			for i := range 3 {
				l = append(l, keep>>i&1 == 1)
				if l[i] {
					last = i
				}
			}
			want := image[:64]
			for i := range 3 {
				lasts := 0
				if l[i] {
					lasts = 64
				}
				if i == last && torn >= 0 {
					lasts = torn
				}
				want += b[64*i:64*i+lasts] + filled("o", 64-lasts)
			}
			is(t, "Crash", d.Crash(l, torn), api.OK)
			tells(t, d, 0, want)
			gets(t, a, 0, 192, want[64:], api.OK)
		}
	}
}

// P8.3: Sync is the disk's Flush: of all that is pending, whoever wrote it; it tells that the disk is down.
func TestSync(t *testing.T) {
	image := mixed(3, 320)
	d := diskOf(t, 64, image)
	a := made(t, d, 1, 2)
	takes(t, d, "Sync", 1, func() { is(t, "Sync", a.Sync(), api.OK) })
	is(t, "Break", d.Break(20), api.OK)
	puts(t, a, 60, "abcdefgh", api.OK)
	is(t, "Write", d.Write(4, mixed(5, 64)), api.OK)
	is(t, "Break", d.Break(0), api.OK)
	for range 3 {
		is(t, "Sync, down", a.Sync(), api.ErrDown)
		tells(t, d, 3, image)
	}
	is(t, "Break", d.Break(1), api.OK)
	is(t, "Sync", a.Sync(), api.OK)
	tells(t, d, 0, image[:124]+"abcdefgh"+image[132:256]+mixed(5, 64))
	is(t, "Sync, down", a.Sync(), api.ErrDown)
}

// P8.2 and P8.3: an area keeps no bytes of its own: whoever else changes the disk, Get tells it, and Put keeps it.
func TestDiskIsChanged(t *testing.T) {
	d := diskOf(t, 64, mixed(3, 320))
	a, b := made(t, d, 1, 3), made(t, d, 2, 3)
	gets(t, a, 64, 64, mixed(3, 320)[128:192], api.OK)
	is(t, "Write", d.Write(2, filled("x", 64)), api.OK)
	gets(t, a, 64, 64, filled("x", 64), api.OK)
	puts(t, b, 10, "yyy", api.OK)
	gets(t, a, 64, 64, filled("x", 10)+"yyy"+filled("x", 51), api.OK)
	puts(t, a, 64, "z", api.OK)
	gets(t, b, 0, 14, "z"+filled("x", 9)+"yyyx", api.OK)
	is(t, "Sync", b.Sync(), api.OK)
	is(t, "Spoil", d.Spoil(129, 'x'^'s'), api.OK)
	gets(t, a, 63, 3, mixed(3, 320)[127:128]+"zs", api.OK)
	puts(t, a, 66, "t", api.OK)
	gets(t, b, 0, 4, "zstx", api.OK)
	is(t, "Crash", d.Crash(nil, -1), api.OK)
	gets(t, a, 64, 4, "zsxx", api.OK)
}

// P8.4: of an area in the midst of a disk no byte outside is changed, whatever is put; nor are such bytes got.
func TestOutside(t *testing.T) {
	for _, size := range []int{64, 65, 100} {
		for from := range 4 {
			for many := 1; from+many <= 4; many++ {
				image := filled("o", 4*size)
				d := diskOf(t, size, image)
				a := made(t, d, from, many)
				whole := mixed(from+7, many*size)
				gets(t, a, 0, many*size, filled("o", many*size), api.OK)
				puts(t, a, 0, whole, api.OK)
				for at := range many * size {
					puts(t, a, at, whole[at:at+1], api.OK)
					puts(t, a, at, whole[at:], api.OK)
					puts(t, a, 0, whole[:at], api.OK)
				}
				for at := -1; at <= many*size+1; at++ {
					puts(t, a, at, filled("z", many*size+1-max(at, 0)), api.ErrRange)
				}
				gets(t, a, 0, many*size, whole, api.OK)
				is(t, "Sync", a.Sync(), api.OK)
				tells(t, d, 0, image[:from*size]+whole+image[(from+many)*size:])
			}
		}
	}
}

// P8.4: bytes put in two pieces are those put at once, and likewise for what is got.
func TestTwoPieces(t *testing.T) {
	image := mixed(3, 320)
	for _, x := range cases {
		b := mixed(9, x.n)
		for cut := range x.n + 1 {
			once, twice := diskOf(t, 64, image), diskOf(t, 64, image)
			puts(t, made(t, once, 1, 3), x.at, b, api.OK)
			a := made(t, twice, 1, 3)
			if cut%2 == 0 {
				puts(t, a, x.at, b[:cut], api.OK)
				puts(t, a, x.at+cut, b[cut:], api.OK)
			} else {
				puts(t, a, x.at+cut, b[cut:], api.OK)
				puts(t, a, x.at, b[:cut], api.OK)
			}
			gets(t, a, x.at, cut, b[:cut], api.OK)
			gets(t, a, x.at+cut, x.n-cut, b[cut:], api.OK)
			gets(t, a, x.at, x.n, b, api.OK)
			is(t, "Flush", once.Flush(), api.OK)
			is(t, "Sync", a.Sync(), api.OK)
			if once.Image() != twice.Image() {
				t.Errorf("%d bytes at %d, cut at %d: %q, not %q", x.n, x.at, cut, twice.Image(), once.Image())
			}
		}
	}
}

// R2: what came out is not changed by what is put later, nor is what is pending by what was handed in.
func TestKept(t *testing.T) {
	d := diskOf(t, 64, mixed(3, 192))
	a := made(t, d, 0, 3)
	b := []byte(mixed(5, 130))
	puts(t, a, 30, string(b), api.OK)
	s, _ := a.Get(0, 192)
	one, _ := a.Get(64, 64)
	whole := mixed(3, 192)[:30] + mixed(5, 130) + mixed(3, 192)[160:]
	for i := range b {
		b[i] = 'z'
	}
	gets(t, a, 0, 192, whole, api.OK)
	puts(t, a, 0, filled("y", 192), api.OK)
	is(t, "Sync", a.Sync(), api.OK)
	is(t, "Spoil", d.Spoil(70, 255), api.OK)
	if s != whole || one != whole[64:128] {
		t.Errorf("what was got is %q, and %q now", s, one)
	}
}

// pair is two disks, the same calls of which are done by an area and by the plain form.
type pair struct {
	d, e *sector.Disk
	a    *Area
	p    plain
}

func newPair(t *testing.T, size int, image string, from, many int) pair {
	t.Helper()
	d, e := diskOf(t, size, image), diskOf(t, size, image)
	return pair{d, e, made(t, d, from, many), plain{e, from, many}}
}

// get and put do a call of both, and tell whether the answers are the same.
func (x pair) get(at, n int) bool {
	s, e := x.a.Get(at, n)
	want, f := x.p.Get(at, n)
	return s == want && e == f && x.alike()
}

func (x pair) put(at int, b string) bool {
	e := x.a.Put(at, b)
	return e == x.p.Put(at, b) && x.alike()
}

// alike tells whether both disks tell the same, without a call that counts.
func (x pair) alike() bool {
	return x.a.Len() == x.p.Len() && x.d.Pending() == x.e.Pending() && x.d.Image() == x.e.Image()
}

// ends does a crash of both, behind which they must be alike.
func (x pair) ends(keep []bool, torn int) bool {
	if left(x.d) != left(x.e) {
		return false
	}
	return x.d.Crash(keep, torn) == api.OK && x.e.Crash(keep, torn) == api.OK && x.alike()
}

// numbers tells numbers that seem to have no order, always the same.
type numbers uint32

func (n *numbers) below(most int) int {
	*n = *n*1664525 + 1013904223
	return int(uint32(*n)>>8) % most
}

// keeps is a choice of pending writes.
func (n *numbers) keeps(many int) []bool {
	l := make([]bool, many)
	for i := range l {
		l[i] = n.below(3) > 0
	}
	return l
}

// P8.2 and P8.3: all places of an area, with the disk's going down behind some call.
func TestAllPlaces(t *testing.T) {
	n := numbers(5)
	image := mixed(3, 5*64)
	for at := range 194 {
		for many := range 194 {
			x := newPair(t, 64, image, 1, 3)
			down := n.below(8)
			x.d.Break(down)
			x.e.Break(down)
			if !x.get(at, many) {
				t.Fatalf("Get(%d, %d), Break(%d)", at, many, down)
			}
			down = n.below(8)
			x.d.Break(down)
			x.e.Break(down)
			if !x.put(at, mixed(9, many)) || !x.ends(n.keeps(3), n.below(67)-1) {
				t.Fatalf("Put(%d) of %d bytes, Break(%d)", at, many, down)
			}
		}
	}
}

// P8.1 to P8.4: places about the edges of sectors, of areas in front, in the midst and at the end of disks, with the disk's going down behind each call.
func TestEdges(t *testing.T) {
	n := numbers(6)
	for _, size := range []int{64, 65, 100} {
		image := mixed(4, 4*size)
		edges := []int{-1, 0, 1, size / 2, size - 1, size, size + 1, 2*size - 1, 2 * size, 2*size + 1, 3*size - 1, 3 * size, 3*size + 1, 4 * size}
		for _, area := range [][2]int{{0, 1}, {3, 1}, {1, 2}, {0, 3}, {1, 3}, {0, 4}} {
			for _, at := range edges {
				for _, end := range edges {
					for down := range 10 {
						x := newPair(t, size, image, area[0], area[1])
						x.d.Break(down)
						x.e.Break(down)
						fine := x.get(at, end-at)
						x.d.Break(down)
						x.e.Break(down)
						if !fine || !x.put(at, mixed(9, max(end-at, 0))) || !x.ends(n.keeps(4), n.below(size+3)-1) {
							t.Fatalf("sectors of %d bytes, area %d, from %d up to %d, Break(%d)", size, area, at, end, down)
						}
					}
				}
			}
		}
	}
}

// step does some call of both, and tells whether the answers are the same.
func (x pair) step(n *numbers) bool {
	at, most := n.below(x.p.Len()+3)-1, x.p.Len()
	switch n.below(16) {
	case 0, 1, 2, 3:
		return x.get(at, n.below(most-max(at, 0)+3)-1)
	case 4, 5, 6, 7, 8, 9:
		return x.put(at, mixed(n.below(200), max(n.below(most-max(at, 0)+3)-1, 0)))
	case 10:
		return x.a.Sync() == x.p.Sync()
	case 11:
		down := n.below(40)
		return x.d.Break(down) == x.e.Break(down)
	case 12:
		many, size := x.d.Size()
		which, b := n.below(many), mixed(n.below(200), size)
		return x.d.Write(which, b) == x.e.Write(which, b)
	case 13:
		place, by := n.below(len(x.d.Image())), byte(n.below(256))
		return x.d.Spoil(place, by) == x.e.Spoil(place, by)
	default:
		keep, torn := n.keeps(n.below(20)), n.below(80)-2
		return x.d.Crash(keep, torn) == x.e.Crash(keep, torn)
	}
}

// P8.1 to P8.4: long rows of calls, of the area and of its disk.
func TestLongRows(t *testing.T) {
	n := numbers(7)
	for _, size := range []int{64, 65, 130} {
		for _, area := range [][3]int{{1, 0, 1}, {3, 1, 1}, {4, 1, 2}, {5, 0, 4}, {9, 2, 7}} {
			for row := range 40 {
				x := newPair(t, size, mixed(row, size*area[0]), area[1], area[2])
				for i := range 120 {
					if !x.step(&n) || !x.alike() {
						t.Fatalf("sectors of %d bytes, area %d, row %d, step %d", size, area, row, i)
					}
				}
				if !x.ends(n.keeps(20), n.below(size)) {
					t.Fatalf("sectors of %d bytes, area %d, row %d: the end", size, area, row)
				}
			}
		}
	}
}

// An area of a whole disk of the most and greatest sectors.
func TestGreatest(t *testing.T) {
	d, e := sector.New(api.MaxSectors, api.MaxSector)
	is(t, "New", e, api.OK)
	a := made(t, d, 0, api.MaxSectors)
	most := api.MaxSectors * api.MaxSector
	if a.Len() != most {
		t.Errorf("Len: %d", a.Len())
	}
	b := mixed(1, most)
	puts(t, a, 0, b, api.OK)
	if d.Pending() != api.MaxSectors {
		t.Errorf("Pending: %d", d.Pending())
	}
	puts(t, a, 1, b, api.ErrRange)
	puts(t, a, 1, b[:most-1], api.OK)
	if s, e := a.Get(0, most); s != b[:1]+b[:most-1] || e != api.OK {
		t.Errorf("Get of all: %d bytes, error %d", len(s), e)
	}
	gets(t, a, most-1, 1, b[most-2:most-1], api.OK)
	gets(t, a, most-1, 2, "", api.ErrRange)
	is(t, "Sync", a.Sync(), api.OK)
	if d.Image() != b[:1]+b[:most-1] {
		t.Errorf("the image is another one")
	}
}
