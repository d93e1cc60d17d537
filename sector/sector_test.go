package sector

import (
	"math"
	"strconv"
	"strings"
	"testing"

	"blackbox/api"
)

// disk is what a Disk and a plain form of the promises have in common.
type disk interface {
	Size() (int, int)
	Read(at int) (string, api.Errno)
	Write(at int, b string) api.Errno
	Flush() api.Errno
	Pending() int
	Break(n int) api.Errno
	Crash(keep []bool, torn int) api.Errno
	Image() string
	Spoil(at int, by byte) api.Errno
}

// record is a pending write, as it was told.
type record struct {
	at int
	b  string
}

// plain is the promises, as they are told: each answer is worked out anew from what was written.
type plain struct {
	many, size int
	lasts      string
	l          []record
	// said is what the last Break said, fine how many calls were OK since; said is -1 if none is in force.
	said, fine int
}

func newPlain(many, size int) *plain {
	return &plain{many: many, size: size, lasts: zeros(many * size), said: -1}
}

func (p *plain) Size() (int, int) { return p.many, p.size }
func (p *plain) Pending() int     { return len(p.l) }
func (p *plain) Image() string    { return p.lasts }
func (p *plain) down() bool       { return p.said >= 0 && p.fine >= p.said }

func (p *plain) Read(at int) (string, api.Errno) {
	if p.down() {
		return "", api.ErrDown
	}
	if at < 0 || at > p.many-1 {
		return "", api.ErrRange
	}
	p.fine++
	for i := len(p.l) - 1; i >= 0; i-- {
		if p.l[i].at == at {
			return p.l[i].b, api.OK
		}
	}
	return p.lasts[at*p.size : (at+1)*p.size], api.OK
}

func (p *plain) Write(at int, b string) api.Errno {
	if p.down() {
		return api.ErrDown
	}
	if at < 0 || at > p.many-1 {
		return api.ErrRange
	}
	if len(b) != p.size {
		return api.ErrArg
	}
	p.fine++
	p.l = append(p.l, record{at, b})
	return api.OK
}

func (p *plain) Flush() api.Errno {
	if p.down() {
		return api.ErrDown
	}
	p.fine++
	for _, r := range p.l {
		p.lay(r.at, r.b)
	}
	p.l = nil
	return api.OK
}

// lay has bytes last, from where the sector begins.
func (p *plain) lay(at int, b string) {
	from := at * p.size
	p.lasts = p.lasts[:from] + b + p.lasts[from+len(b):]
}

func (p *plain) Break(n int) api.Errno {
	if n < 0 {
		return api.ErrArg
	}
	p.said, p.fine = n, 0
	return api.OK
}

func (p *plain) Crash(keep []bool, torn int) api.Errno {
	last := -1
	for i := range p.l {
		if i < len(keep) && keep[i] {
			last = i
		}
	}
	for i, r := range p.l {
		if i >= len(keep) || !keep[i] {
			continue
		}
		if i == last && torn >= 0 && torn <= p.size-1 {
			p.lay(r.at, r.b[:torn])
		} else {
			p.lay(r.at, r.b)
		}
	}
	p.l, p.said = nil, -1
	return api.OK
}

func (p *plain) Spoil(at int, by byte) api.Errno {
	if at < 0 || at > p.many*p.size-1 {
		return api.ErrRange
	}
	p.lasts = p.lasts[:at] + string([]byte{p.lasts[at] ^ by}) + p.lasts[at+1:]
	return api.OK
}

func zeros(many int) string { return strings.Repeat("\x00", many) }

// filled is many bytes of a sign.
func filled(sign string, many int) string { return strings.Repeat(sign, many) }

// mixed is many bytes that differ, and from those of another n.
func mixed(n, many int) string {
	b := make([]byte, many)
	for i := range b {
		b[i] = byte(n*37 + i*5 + i/51 + 1)
	}
	return string(b)
}

// made is a new disk, or the test ends.
func made(t *testing.T, many, size int) *Disk {
	t.Helper()
	d, e := New(many, size)
	if e != api.OK || d == nil {
		t.Fatalf("New(%d, %d): %v, error %d", many, size, d, e)
	}
	return d
}

// is tells of a call's error that is not the one it should be.
func is(t *testing.T, what string, e, want api.Errno) {
	t.Helper()
	if e != want {
		t.Errorf("%s: error %d, not %d", what, e, want)
	}
}

// reads tells of a sector that is read otherwise.
func reads(t *testing.T, d *Disk, at int, want string, e api.Errno) {
	t.Helper()
	if s, f := d.Read(at); s != want || f != e {
		t.Errorf("Read(%d): %q, error %d, not %q, error %d", at, s, f, want, e)
	}
}

// writes tells of a sector that can't be written, and flushes of a flush that can't be done.
func writes(t *testing.T, d *Disk, at int, b string) {
	t.Helper()
	is(t, "Write("+strconv.Itoa(at)+")", d.Write(at, b), api.OK)
}

func flushes(t *testing.T, d *Disk) {
	t.Helper()
	is(t, "Flush", d.Flush(), api.OK)
}

func crashes(t *testing.T, d *Disk, torn int, keep ...bool) {
	t.Helper()
	is(t, "Crash", d.Crash(keep, torn), api.OK)
	if d.Pending() != 0 {
		t.Errorf("Pending behind a Crash: %d", d.Pending())
	}
}

// tells tells of a disk that has another image, or other writes that are pending.
func tells(t *testing.T, d *Disk, pending int, image string) {
	t.Helper()
	if n := d.Pending(); n != pending {
		t.Errorf("Pending: %d, not %d", n, pending)
	}
	if s := d.Image(); s != image {
		t.Errorf("Image: %q, not %q", s, image)
	}
}

// isDown tells of a disk that does any of the three calls, or of one whose calls change anything.
func isDown(t *testing.T, d *Disk) {
	t.Helper()
	many, size := d.Size()
	pending, image := d.Pending(), d.Image()
	for _, at := range []int{0, many - 1, -1, many} {
		reads(t, d, at, "", api.ErrDown)
		is(t, "Write, down", d.Write(at, filled("x", size)), api.ErrDown)
		is(t, "Write of no bytes, down", d.Write(at, ""), api.ErrDown)
	}
	is(t, "Flush, down", d.Flush(), api.ErrDown)
	tells(t, d, pending, image)
}

// The chapter's examples.
func TestExamples(t *testing.T) {
	d := made(t, 2, 64)
	a, b := filled("a", 64), filled("b", 64)
	writes(t, d, 1, a)
	reads(t, d, 1, a, api.OK)
	tells(t, d, 1, zeros(128))
	crashes(t, d, -1)
	reads(t, d, 1, zeros(64), api.OK)
	writes(t, d, 0, b)
	crashes(t, d, 3, true)
	reads(t, d, 0, "bbb"+zeros(61), api.OK)
	tells(t, d, 0, "bbb"+zeros(125))
}

// P7.1: each number at and beyond its ends.
func TestNew(t *testing.T) {
	for _, many := range []int{math.MinInt, -4096, -1, 0, 1, 2, 100, 4095, 4096, 4097, 8192, 1 << 32, math.MaxInt} {
		for _, size := range []int{math.MinInt, -64, -1, 0, 1, 32, 63, 64, 65, 100, 1023, 1024, 1025, 2048, 1 << 32, math.MaxInt} {
			d, e := New(many, size)
			if many < 1 || many > 4096 || size < 64 || size > 1024 {
				if d != nil || e != api.ErrArg {
					t.Errorf("New(%d, %d): %v, error %d", many, size, d != nil, e)
				}
				continue
			}
			if d == nil || e != api.OK {
				t.Fatalf("New(%d, %d): %v, error %d", many, size, d != nil, e)
			}
			if m, s := d.Size(); m != many || s != size {
				t.Errorf("Size of New(%d, %d): %d, %d", many, size, m, s)
			}
			tells(t, d, 0, zeros(many*size))
			for _, at := range []int{0, many / 2, many - 1} {
				reads(t, d, at, zeros(size), api.OK)
			}
			reads(t, d, many, "", api.ErrRange)
			flushes(t, d)
			tells(t, d, 0, zeros(many*size))
		}
	}
}

// A nil disk, at each call: ErrNil is told ahead of what else is wrong.
func TestNil(t *testing.T) {
	var d *Disk
	if many, size := d.Size(); many != 0 || size != 0 {
		t.Errorf("Size of a nil disk: %d, %d", many, size)
	}
	tells(t, d, 0, "")
	for _, n := range []int{math.MinInt, -1, 0, 1, math.MaxInt} {
		reads(t, d, n, "", api.ErrNil)
		is(t, "Write", d.Write(n, ""), api.ErrNil)
		is(t, "Write", d.Write(n, filled("a", 64)), api.ErrNil)
		is(t, "Flush", d.Flush(), api.ErrNil)
		is(t, "Break", d.Break(n), api.ErrNil)
		is(t, "Crash", d.Crash(nil, n), api.ErrNil)
		is(t, "Crash", d.Crash([]bool{true, false}, n), api.ErrNil)
		is(t, "Spoil", d.Spoil(n, 1), api.ErrNil)
	}
	tells(t, d, 0, "")
}

// R1: a disk that was not made by New has no sectors, and no call of it panics.
func TestNotMade(t *testing.T) {
	d := &Disk{}
	if many, size := d.Size(); many != 0 || size != 0 {
		t.Errorf("Size: %d, %d", many, size)
	}
	reads(t, d, 0, "", api.ErrRange)
	is(t, "Write", d.Write(0, ""), api.ErrRange)
	is(t, "Spoil", d.Spoil(0, 1), api.ErrRange)
	flushes(t, d)
	crashes(t, d, 0, true)
	is(t, "Break", d.Break(0), api.OK)
	isDown(t, d)
	crashes(t, d, -1)
	tells(t, d, 0, "")
}

// P7.1: what Size, Pending and Image tell behind writes, flushes and crashes.
func TestTelling(t *testing.T) {
	for _, size := range []int{64, 65, 100, 1023, 1024} {
		d := made(t, 3, size)
		a, b, c, none := mixed(1, size), mixed(2, size), mixed(3, size), zeros(size)
		steps := []struct {
			do      func()
			pending int
			image   string
		}{
			{func() { writes(t, d, 2, a) }, 1, none + none + none},
			{func() { writes(t, d, 0, b) }, 2, none + none + none},
			{func() { writes(t, d, 2, c) }, 3, none + none + none},
			{func() { writes(t, d, 2, c) }, 4, none + none + none},
			{func() { flushes(t, d) }, 0, b + none + c},
			{func() { flushes(t, d) }, 0, b + none + c},
			{func() { writes(t, d, 1, a) }, 1, b + none + c},
			{func() { writes(t, d, 0, none) }, 2, b + none + c},
			{func() { crashes(t, d, -1, false, true) }, 0, none + none + c},
			{func() { writes(t, d, 1, a) }, 1, none + none + c},
			{func() { crashes(t, d, -1) }, 0, none + none + c},
			{func() { flushes(t, d) }, 0, none + none + c},
			{func() { writes(t, d, 1, a) }, 1, none + none + c},
			{func() { crashes(t, d, 7, true) }, 0, none + a[:7] + none[7:] + c},
		}
		for i, x := range steps {
			x.do()
			if n, s := d.Pending(), d.Image(); n != x.pending || s != x.image {
				t.Fatalf("size %d, step %d: %d pending, image %q", size, i, n, s)
			}
			if many, s := d.Size(); many != 3 || s != size {
				t.Fatalf("size %d, step %d: Size %d, %d", size, i, many, s)
			}
		}
	}
}

// P7.2: the first and the last sector, and beyond them; and a sector's bytes touch no other one's.
func TestReadAndWrite(t *testing.T) {
	for _, many := range []int{1, 2, 3, 17, 4096} {
		for _, size := range []int{64, 77, 1024} {
			d := made(t, many, size)
			first, last := mixed(1, size), mixed(2, size)
			writes(t, d, 0, first)
			reads(t, d, 0, first, api.OK)
			writes(t, d, many-1, last)
			reads(t, d, many-1, last, api.OK)
			for _, at := range []int{math.MinInt, -many, -1, many, many + 1, 2 * many, 1 << 40, math.MaxInt} {
				reads(t, d, at, "", api.ErrRange)
				is(t, "Write beyond", d.Write(at, first), api.ErrRange)
				is(t, "Write of no bytes beyond", d.Write(at, ""), api.ErrRange)
			}
			tells(t, d, 2, zeros(many*size))
			flushes(t, d)
			whole := last
			if many > 1 {
				whole = first + zeros((many-2)*size) + last
			}
			tells(t, d, 0, whole)
			for _, at := range []int{0, 1, many / 2, many - 2, many - 1} {
				if at >= 0 && at < many {
					reads(t, d, at, whole[at*size:(at+1)*size], api.OK)
				}
			}
		}
	}
}

// P7.2: fewer and more bytes than a sector has; what is refused changes nothing.
func TestWriteLength(t *testing.T) {
	for _, size := range []int{64, 100, 1024} {
		d := made(t, 3, size)
		a := mixed(1, size)
		writes(t, d, 1, a)
		for _, n := range []int{0, 1, 63, size - 1, size + 1, 2 * size, 3 * size, 4096} {
			if n == size {
				continue
			}
			for at := range 3 {
				is(t, "Write of "+strconv.Itoa(n), d.Write(at, filled("z", n)), api.ErrArg)
			}
			is(t, "Write beyond of "+strconv.Itoa(n), d.Write(3, filled("z", n)), api.ErrRange)
			is(t, "Write ahead of "+strconv.Itoa(n), d.Write(-1, filled("z", n)), api.ErrRange)
		}
		tells(t, d, 1, zeros(3*size))
		reads(t, d, 0, zeros(size), api.OK)
		reads(t, d, 1, a, api.OK)
		reads(t, d, 2, zeros(size), api.OK)
		flushes(t, d)
		tells(t, d, 0, zeros(size)+a+zeros(size))
	}
}

// P7.2: a Read behind several writes of one sector tells the last one, ahead of a Flush and behind it.
func TestReadOfLastWrite(t *testing.T) {
	d := made(t, 2, 64)
	for n := range 300 {
		writes(t, d, 0, mixed(n, 64))
		reads(t, d, 0, mixed(n, 64), api.OK)
		reads(t, d, 1, zeros(64), api.OK)
		tells(t, d, n+1, zeros(128))
	}
	writes(t, d, 0, zeros(64))
	reads(t, d, 0, zeros(64), api.OK)
	writes(t, d, 0, mixed(7, 64))
	tells(t, d, 302, zeros(128))
	flushes(t, d)
	reads(t, d, 0, mixed(7, 64), api.OK)
	tells(t, d, 0, mixed(7, 64)+zeros(64))
}

// P7.2: behind a Flush all lasts, and a crash keeps nothing anew of what was flushed.
func TestFlush(t *testing.T) {
	d := made(t, 4, 64)
	var image string
	for at := range 4 {
		writes(t, d, at, mixed(9, 64))
		writes(t, d, at, mixed(at, 64))
		image += mixed(at, 64)
	}
	flushes(t, d)
	tells(t, d, 0, image)
	crashes(t, d, 3, true, true, true, true, true, true, true, true)
	tells(t, d, 0, image)
	for at := range 4 {
		reads(t, d, at, mixed(at, 64), api.OK)
	}
}

// P7.3: a number below 0 is refused, and a Break ahead stays in force.
func TestBreakBelow(t *testing.T) {
	for _, n := range []int{-1, -2, math.MinInt} {
		d := made(t, 2, 64)
		is(t, "Break below 0", d.Break(n), api.ErrArg)
		for range 5 {
			flushes(t, d)
		}
		is(t, "Break", d.Break(2), api.OK)
		is(t, "Break below 0", d.Break(n), api.ErrArg)
		flushes(t, d)
		is(t, "Break below 0", d.Break(n), api.ErrArg)
		flushes(t, d)
		isDown(t, d)
		is(t, "Break below 0, down", d.Break(n), api.ErrArg)
		isDown(t, d)
	}
}

// P7.3: behind n further calls that are OK, of each kind, the disk is down, till a Crash.
func TestBreak(t *testing.T) {
	for n := range 12 {
		for kind := range 8 {
			d := made(t, 2, 64)
			writes(t, d, 0, mixed(1, 64))
			is(t, "Break", d.Break(n), api.OK)
			for i := range n {
				// Of the kinds below 3 all calls are alike, of the others they take turns.
				switch (kind + i*(kind/3)) % 3 {
				case 0:
					reads(t, d, 1, zeros(64), api.OK)
				case 1:
					writes(t, d, 0, mixed(i, 64))
				case 2:
					flushes(t, d)
				}
			}
			for range 3 {
				isDown(t, d)
			}
			crashes(t, d, -1)
			for range 20 {
				reads(t, d, 1, zeros(64), api.OK)
				writes(t, d, 1, zeros(64))
				flushes(t, d)
			}
		}
	}
}

// P7.3: many calls may be OK, and the greatest number is none too great.
func TestBreakMany(t *testing.T) {
	d := made(t, 1, 64)
	is(t, "Break", d.Break(100000), api.OK)
	for range 100000 {
		if _, e := d.Read(0); e != api.OK {
			t.Fatalf("Read: error %d", e)
		}
	}
	isDown(t, d)
	is(t, "Break", d.Break(math.MaxInt), api.OK)
	for range 1000 {
		reads(t, d, 0, zeros(64), api.OK)
	}
	crashes(t, d, 0)
	for range 1000 {
		reads(t, d, 0, zeros(64), api.OK)
	}
}

// P7.3: another Break takes the place of the one ahead, whether that lets more calls be done, fewer, or none.
func TestBreakAnew(t *testing.T) {
	for ahead := range 6 {
		for done := range ahead + 1 {
			for n := range 6 {
				d := made(t, 1, 64)
				is(t, "Break ahead", d.Break(ahead), api.OK)
				for range done {
					flushes(t, d)
				}
				is(t, "Break", d.Break(n), api.OK)
				for range n {
					flushes(t, d)
				}
				isDown(t, d)
			}
		}
	}
}

// P7.3: calls that are refused, and those of other kinds, are not counted.
func TestBreakCounts(t *testing.T) {
	d := made(t, 2, 64)
	other := func() {
		for range 5 {
			reads(t, d, -1, "", api.ErrRange)
			reads(t, d, 2, "", api.ErrRange)
			is(t, "Write", d.Write(-1, mixed(1, 64)), api.ErrRange)
			is(t, "Write", d.Write(2, mixed(1, 64)), api.ErrRange)
			is(t, "Write", d.Write(0, "few"), api.ErrArg)
			is(t, "Break", d.Break(-1), api.ErrArg)
			is(t, "Spoil", d.Spoil(128, 1), api.ErrRange)
			is(t, "Spoil", d.Spoil(127, 1), api.OK)
			is(t, "Spoil", d.Spoil(127, 1), api.OK)
			d.Size()
			d.Pending()
			d.Image()
		}
	}
	is(t, "Break", d.Break(3), api.OK)
	other()
	reads(t, d, 0, zeros(64), api.OK)
	other()
	writes(t, d, 0, mixed(1, 64))
	other()
	flushes(t, d)
	isDown(t, d)
	tells(t, d, 0, mixed(1, 64)+zeros(64))
}

// P7.3 and P7.4: what is pending as the disk goes down is pending still, and lasts by the Crash as it says.
func TestDownAndCrash(t *testing.T) {
	for torn := range 66 {
		d := made(t, 3, 64)
		is(t, "Break", d.Break(3), api.OK)
		writes(t, d, 0, mixed(1, 64))
		writes(t, d, 1, mixed(2, 64))
		writes(t, d, 0, mixed(3, 64))
		is(t, "Write, down", d.Write(2, mixed(4, 64)), api.ErrDown)
		isDown(t, d)
		tells(t, d, 3, zeros(192))
		crashes(t, d, torn, true, false, true, true)
		n := min(torn, 64)
		tells(t, d, 0, mixed(3, 64)[:n]+mixed(1, 64)[n:]+zeros(128))
		reads(t, d, 0, mixed(3, 64)[:n]+mixed(1, 64)[n:], api.OK)
	}
}

// P7.4: no Break is in force behind a Crash, whether the disk was down or about to be.
func TestCrashEndsBreak(t *testing.T) {
	for n := range 4 {
		for done := range n + 1 {
			d := made(t, 1, 64)
			is(t, "Break", d.Break(n), api.OK)
			for range done {
				flushes(t, d)
			}
			crashes(t, d, -1)
			for range 10 {
				flushes(t, d)
				reads(t, d, 0, zeros(64), api.OK)
			}
			is(t, "Break", d.Break(1), api.OK)
			flushes(t, d)
			isDown(t, d)
		}
	}
}

// keeps are all lists of that many answers.
func keeps(many int) [][]bool {
	l := [][]bool{nil}
	for range many {
		var more [][]bool
		for _, keep := range l {
			more = append(more, append(keep[:len(keep):len(keep)], false), append(keep[:len(keep):len(keep)], true))
		}
		l = more
	}
	return l
}

func torns(size int) []int {
	return []int{math.MinInt, -size, -1, 0, 1, 2, size / 2, size - 2, size - 1, size, size + 1, 2 * size, math.MaxInt}
}

// pendingPair is a disk and its plain form with five writes pending over what was flushed.
func pendingPair(t *testing.T, size int) (*Disk, *plain) {
	d, p := made(t, 3, size), newPlain(3, size)
	for _, x := range []disk{d, p} {
		for at := range 3 {
			is(t, "Write", x.Write(at, mixed(10+at, size)), api.OK)
		}
		is(t, "Flush", x.Flush(), api.OK)
		for i, at := range []int{0, 1, 0, 2, 1} {
			is(t, "Write", x.Write(at, mixed(20+i, size)), api.OK)
		}
	}
	return d, p
}

// P7.4: five pending writes of three sectors, each set of them kept, with fewer elements and more, at each kind of torn.
func TestCrash(t *testing.T) {
	for _, size := range []int{64, 101} {
		for _, torn := range torns(size) {
			for many := range 8 {
				for _, keep := range keeps(many) {
					d, p := pendingPair(t, size)
					is(t, "Crash", d.Crash(keep, torn), p.Crash(keep, torn))
					tells(t, d, 0, p.Image())
					for at := range 3 {
						want, e := p.Read(at)
						reads(t, d, at, want, e)
					}
				}
			}
		}
	}
}

// P7.4: each torn from below 0 to beyond the size, by hand: of the writes that last, the last one is torn, not the last that was pending.
func TestTorn(t *testing.T) {
	a, b, c, old := filled("a", 64), filled("b", 64), filled("c", 64), filled("o", 64)
	for torn := -2; torn <= 66; torn++ {
		n := torn
		if torn < 0 || torn > 63 {
			n = 64
		}
		fresh := func() *Disk {
			d := made(t, 2, 64)
			writes(t, d, 0, old)
			writes(t, d, 1, old)
			flushes(t, d)
			writes(t, d, 0, a)
			writes(t, d, 1, b)
			writes(t, d, 0, c)
			return d
		}
		for _, x := range []struct {
			keep  []bool
			image string
		}{
			{nil, old + old},
			{[]bool{false, false, false}, old + old},
			{[]bool{true}, a[:n] + old[n:] + old},
			{[]bool{true, false, false}, a[:n] + old[n:] + old},
			{[]bool{false, true}, old + b[:n] + old[n:]},
			{[]bool{true, true}, a + b[:n] + old[n:]},
			{[]bool{false, false, true}, c[:n] + old[n:] + old},
			{[]bool{true, false, true}, c[:n] + a[n:] + old},
			{[]bool{false, true, true}, c[:n] + old[n:] + b},
			{[]bool{true, true, true}, c[:n] + a[n:] + b},
			{[]bool{true, true, true, true, true}, c[:n] + a[n:] + b},
			{[]bool{true, true, false, true, true}, a + b[:n] + old[n:]},
			{[]bool{false, false, false, true}, old + old},
		} {
			d := fresh()
			crashes(t, d, torn, x.keep...)
			tells(t, d, 0, x.image)
			reads(t, d, 0, x.image[:64], api.OK)
			reads(t, d, 1, x.image[64:], api.OK)
			// What a crash did not keep does not come again.
			flushes(t, d)
			crashes(t, d, -1, true, true, true)
			tells(t, d, 0, x.image)
		}
	}
}

// P7.5: each byte, and beyond the first and the last.
func TestSpoil(t *testing.T) {
	d := made(t, 2, 65)
	image := []byte(mixed(1, 65) + mixed(2, 65))
	writes(t, d, 0, string(image[:65]))
	writes(t, d, 1, string(image[65:]))
	flushes(t, d)
	for _, at := range []int{math.MinInt, -130, -1, 130, 131, 2 * 130, math.MaxInt} {
		for _, by := range []byte{0, 1, 255} {
			is(t, "Spoil beyond", d.Spoil(at, by), api.ErrRange)
		}
	}
	tells(t, d, 0, string(image))
	for at := range image {
		for _, by := range []byte{0, 1, 128, 255, byte(at)} {
			is(t, "Spoil", d.Spoil(at, by), api.OK)
			image[at] ^= by
			tells(t, d, 0, string(image))
			reads(t, d, at/65, string(image[at/65*65:][:65]), api.OK)
		}
	}
	crashes(t, d, -1)
	flushes(t, d)
	tells(t, d, 0, string(image))
}

// P7.5: all bytes, by all bits.
func TestSpoilBits(t *testing.T) {
	d := made(t, 4, 64)
	for at := range 4 {
		b := make([]byte, 64)
		for i := range b {
			b[i] = byte(at*64 + i)
		}
		writes(t, d, at, string(b))
	}
	flushes(t, d)
	for by := range 256 {
		for at := range 256 {
			is(t, "Spoil", d.Spoil(at, byte(by)), api.OK)
		}
		image := d.Image()
		for at := range 256 {
			if image[at] != byte(at)^byte(by) {
				t.Errorf("%d by %d: %d", at, by, image[at])
			}
			is(t, "Spoil back", d.Spoil(at, byte(by)), api.OK)
		}
	}
}

// P7.5: under pending writes what lasts is spoiled, not what is pending.
func TestSpoilUnderPending(t *testing.T) {
	a, old := filled("a", 64), filled("o", 64)
	spoiled := old[:10] + "\x90" + old[11:]
	fresh := func() *Disk {
		d := made(t, 2, 64)
		writes(t, d, 0, old)
		writes(t, d, 1, old)
		flushes(t, d)
		writes(t, d, 1, a)
		is(t, "Spoil", d.Spoil(10, 255), api.OK)
		is(t, "Spoil", d.Spoil(74, 255), api.OK)
		tells(t, d, 1, spoiled+spoiled)
		reads(t, d, 0, spoiled, api.OK)
		reads(t, d, 1, a, api.OK)
		return d
	}
	d := fresh()
	flushes(t, d)
	tells(t, d, 0, spoiled+a)
	reads(t, d, 1, a, api.OK)
	d = fresh()
	crashes(t, d, -1)
	tells(t, d, 0, spoiled+spoiled)
	reads(t, d, 1, spoiled, api.OK)
	for torn := range 64 {
		d = fresh()
		crashes(t, d, torn, true)
		tells(t, d, 0, spoiled+a[:torn]+spoiled[torn:])
		reads(t, d, 1, a[:torn]+spoiled[torn:], api.OK)
	}
}

// P7.5: also of a disk that is down, which it stays.
func TestSpoilDown(t *testing.T) {
	d := made(t, 1, 64)
	is(t, "Break", d.Break(0), api.OK)
	is(t, "Spoil, down", d.Spoil(0, 7), api.OK)
	is(t, "Spoil, down", d.Spoil(63, 9), api.OK)
	is(t, "Spoil beyond, down", d.Spoil(64, 9), api.ErrRange)
	is(t, "Spoil ahead, down", d.Spoil(-1, 9), api.ErrRange)
	isDown(t, d)
	tells(t, d, 0, "\x07"+zeros(62)+"\x09")
	crashes(t, d, -1)
	reads(t, d, 0, "\x07"+zeros(62)+"\x09", api.OK)
}

// P7.6: what was flushed is there behind any crash, unless a pending write of its sector lasts.
func TestFlushedIsThere(t *testing.T) {
	for _, torn := range torns(64) {
		for _, keep := range keeps(5) {
			d, _ := pendingPair(t, 64)
			written := []bool{false, false, false}
			for i, at := range []int{0, 1, 0, 2, 1} {
				written[at] = written[at] || keep[i]
			}
			before := d.Image()
			is(t, "Crash", d.Crash(keep, torn), api.OK)
			for at := range 3 {
				if !written[at] {
					reads(t, d, at, mixed(10+at, 64), api.OK)
					if s := d.Image(); s[at*64:][:64] != before[at*64:][:64] {
						t.Errorf("keep %v, torn %d: sector %d is not as it was flushed", keep, torn, at)
					}
				}
			}
		}
	}
}

// P7.6: to keep all pending writes, untorn, is to flush them.
func TestKeepAllIsFlush(t *testing.T) {
	for _, torn := range []int{math.MinInt, -1, 64, 65, math.MaxInt} {
		for many := range 40 {
			d, f := made(t, 5, 64), made(t, 5, 64)
			keep := make([]bool, many+many%3)
			for i := range keep {
				keep[i] = true
			}
			for i := range many {
				writes(t, d, i*i%5, mixed(i, 64))
				writes(t, f, i*i%5, mixed(i, 64))
			}
			crashes(t, d, torn, keep...)
			flushes(t, f)
			tells(t, d, 0, f.Image())
			for at := range 5 {
				want, e := f.Read(at)
				reads(t, d, at, want, e)
			}
		}
	}
}

// P7.6: what is down does nothing: behind a Crash, all is as if no call had been made while it was down.
func TestDownDoesNothing(t *testing.T) {
	for _, keep := range keeps(6) {
		d, p := pendingPair(t, 64)
		is(t, "Break", d.Break(0), api.OK)
		isDown(t, d)
		tells(t, d, 5, p.Image())
		is(t, "Crash", d.Crash(keep, 9), p.Crash(keep, 9))
		tells(t, d, 0, p.Image())
	}
}

// R2: what was handed in stays as it is, what came out is not changed later, and disks do not touch one another.
func TestNothingElseChanges(t *testing.T) {
	d, other := made(t, 2, 64), made(t, 2, 64)
	keep := []bool{true, false, true, true}
	given := mixed(1, 64)
	writes(t, d, 0, given)
	read, _ := d.Read(0)
	flushes(t, d)
	flushed, _ := d.Read(0)
	image := d.Image()
	writes(t, d, 0, mixed(2, 64))
	writes(t, d, 0, mixed(3, 64))
	writes(t, d, 1, mixed(4, 64))
	is(t, "Spoil", d.Spoil(0, 255), api.OK)
	is(t, "Crash", d.Crash(keep, 5), api.OK)
	is(t, "Spoil", d.Spoil(1, 255), api.OK)
	flushes(t, d)
	if given != mixed(1, 64) || read != given || flushed != given || image != given+zeros(64) {
		t.Errorf("a text has changed: %q, %q, %q, %q", given, read, flushed, image)
	}
	for i, kept := range []bool{true, false, true, true} {
		if keep[i] != kept {
			t.Errorf("the element %d of what was handed in has changed", i)
		}
	}
	// What is done with a list behind the call is not seen.
	want := d.Image()
	clear(keep)
	tells(t, d, 0, want)
	tells(t, other, 0, zeros(128))
	reads(t, other, 0, zeros(64), api.OK)
}

// answer is what a call tells.
type answer struct {
	s string
	e api.Errno
}

// step is a call, done to a disk.
type step struct {
	name string
	do   func(x disk) answer
}

func readStep(at int) step {
	return step{"Read " + strconv.Itoa(at), func(x disk) answer {
		s, e := x.Read(at)
		return answer{s, e}
	}}
}

func writeStep(at int, b string) step {
	return step{"Write " + strconv.Itoa(at), func(x disk) answer { return answer{e: x.Write(at, b)} }}
}

func flushStep() step {
	return step{"Flush", func(x disk) answer { return answer{e: x.Flush()} }}
}

func breakStep(n int) step {
	return step{"Break " + strconv.Itoa(n), func(x disk) answer { return answer{e: x.Break(n)} }}
}

func crashStep(torn int, keep ...bool) step {
	return step{"Crash " + strconv.Itoa(torn), func(x disk) answer { return answer{e: x.Crash(keep, torn)} }}
}

func spoilStep(at int, by byte) step {
	return step{"Spoil " + strconv.Itoa(at), func(x disk) answer { return answer{e: x.Spoil(at, by)} }}
}

// same tells whether both disks tell the same by their other calls.
func same(d, p disk) bool {
	m, s := d.Size()
	n, u := p.Size()
	return m == n && s == u && d.Pending() == p.Pending() && d.Image() == p.Image()
}

// runs does the same steps to a new disk and to its plain form, and tells of the first answer that differs.
func runs(t *testing.T, many, size int, l []step) {
	t.Helper()
	d, p := made(t, many, size), newPlain(many, size)
	var told []string
	for _, x := range l {
		told = append(told, x.name)
		got, want := x.do(d), x.do(p)
		if got != want || !same(d, p) {
			t.Fatalf("%s: %q, error %d, not %q, error %d, or another image", strings.Join(told, ", "), got.s, got.e, want.s, want.e)
		}
	}
}

// P7.1 to P7.6: all rows of three calls of many kinds, of a new disk and behind two writes, with all that can be told behind them.
func TestAllRows(t *testing.T) {
	l := []step{
		writeStep(0, mixed(1, 64)), writeStep(0, mixed(2, 64)), writeStep(1, mixed(3, 64)), writeStep(1, "few"), writeStep(2, mixed(3, 64)),
		readStep(0), readStep(1), readStep(-1), flushStep(),
		breakStep(0), breakStep(1), breakStep(2), breakStep(-1),
		crashStep(-1), crashStep(5, true), crashStep(63, false, true, true), crashStep(64, true, true, true), crashStep(0, true, true),
		spoilStep(0, 1), spoilStep(127, 255), spoilStep(128, 1),
	}
	end := []step{readStep(0), readStep(1), crashStep(7, true, true, false, true, true), readStep(0), readStep(1)}
	first := []step{writeStep(0, mixed(4, 64)), writeStep(1, mixed(5, 64))}
	for _, a := range l {
		for _, b := range l {
			for _, c := range l {
				runs(t, 2, 64, append([]step{a, b, c}, end...))
				runs(t, 2, 64, append([]step{first[0], first[1], a, b, c}, end...))
			}
		}
	}
}

// numbers tells numbers that seem to have no order, always the same.
type numbers uint32

func (n *numbers) below(most int) int {
	*n = *n*1664525 + 1013904223
	return int(uint32(*n)>>8) % most
}

// anyStep is some call, most of the time one that is not refused.
func anyStep(n *numbers, many, size int) step {
	switch n.below(20) {
	case 0, 1, 2, 3, 4:
		return readStep(n.below(many+2) - 1)
	case 5, 6, 7, 8, 9, 10, 11:
		return writeStep(n.below(many), mixed(n.below(200), size))
	case 12:
		return writeStep(n.below(many+2)-1, mixed(n.below(200), size-1+n.below(3)))
	case 13, 14:
		return flushStep()
	case 15:
		return breakStep(n.below(12) - 1)
	case 16, 17:
		return spoilStep(n.below(many*size+2)-1, byte(n.below(256)))
	default:
		keep := make([]bool, n.below(12))
		for i := range keep {
			keep[i] = n.below(2) == 1
		}
		return crashStep(n.below(size+4)-2, keep...)
	}
}

// P7.1 to P7.6: long rows of calls, on disks of several sizes.
func TestLongRows(t *testing.T) {
	n := numbers(7)
	for _, many := range []int{1, 2, 3, 8} {
		for _, size := range []int{64, 65, 130} {
			for range 40 {
				var l []step
				for range 120 {
					l = append(l, anyStep(&n, many, size))
				}
				runs(t, many, size, l)
			}
		}
	}
}

// A disk of the most and greatest sectors, with more writes pending than it has sectors.
func TestGreatest(t *testing.T) {
	d := made(t, 4096, 1024)
	var whole strings.Builder
	for n := range 3 * 4096 {
		writes(t, d, n%4096, mixed(n, 1024))
	}
	for at := range 4096 {
		reads(t, d, at, mixed(2*4096+at, 1024), api.OK)
		whole.WriteString(mixed(2*4096+at, 1024))
	}
	if d.Pending() != 3*4096 || d.Image() != zeros(4096*1024) {
		t.Errorf("%d pending", d.Pending())
	}
	flushes(t, d)
	if d.Pending() != 0 || d.Image() != whole.String() {
		t.Errorf("%d pending behind a Flush", d.Pending())
	}
	is(t, "Spoil", d.Spoil(4096*1024-1, 1), api.OK)
	is(t, "Spoil beyond", d.Spoil(4096*1024, 1), api.ErrRange)
	last := mixed(3*4096-1, 1024)
	reads(t, d, 4095, last[:1023]+string([]byte{last[1023] ^ 1}), api.OK)
}
