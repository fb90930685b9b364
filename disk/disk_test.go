package disk_test

import (
	"math"
	"math/rand"
	"slices"
	"strings"
	"testing"

	"cadastre/api"
	"cadastre/disk"
	"cadastre/page"
)

// full is a page's bytes, all of them that one.
func full(b byte) string { return strings.Repeat(string([]byte{b}), 256) }

func create(t *testing.T, pages int) *disk.Disk {
	t.Helper()
	d, e := disk.New(pages)
	if d == nil || e != api.OK {
		t.Fatalf("New(%d): %v, %d", pages, d, e)
	}
	return d
}

func write(t *testing.T, d *disk.Disk, n int, s string) {
	t.Helper()
	if e := d.Write(n, s); e != api.OK {
		t.Fatalf("Write(%d): %d", n, e)
	}
}

// holds expects pages by their first bytes, of pages that are full.
func holds(t *testing.T, d *disk.Disk, want ...byte) {
	t.Helper()
	var have []byte
	for _, s := range d.Image() {
		if len(s) != 256 {
			t.Fatalf("a page of %d bytes", len(s))
		}
		have = append(have, s[0])
	}
	if !slices.Equal(have, want) {
		t.Errorf("the disk holds %x, want %x", have, want)
	}
}

func waits(t *testing.T, d *disk.Disk, want ...int) {
	t.Helper()
	if have := d.Waits(); !slices.Equal(have, want) {
		t.Errorf("there waits %v, want %v", have, want)
	}
}

func reads(t *testing.T, d *disk.Disk, n int, want string) {
	t.Helper()
	if s, e := d.Read(n); s != want || e != api.OK {
		t.Errorf("Read(%d): %x, %d, want %x", n, s, e, want)
	}
}

func counts(t *testing.T, d *disk.Disk, reads int, writes int, flushes int) {
	t.Helper()
	if r, w, f := d.Counts(); r != reads || w != writes || f != flushes {
		t.Errorf("Counts: %d, %d, %d, want %d, %d, %d", r, w, f, reads, writes, flushes)
	}
}

// P4.1
func TestNew(t *testing.T) {
	for _, pages := range []int{1, 2, 3, 999, 1000} {
		d := create(t, pages)
		if d.Size() != pages || !slices.Equal(d.Image(), slices.Repeat([]string{page.Blank()}, pages)) {
			t.Errorf("New(%d): %d pages", pages, d.Size())
		}
		waits(t, d)
		counts(t, d, 0, 0, 0)
	}
	for _, pages := range []int{math.MinInt, -1000, -1, 0, 1001, 1002, math.MaxInt} {
		if d, e := disk.New(pages); d != nil || e != api.BadRequest {
			t.Errorf("New(%d): %v, %d", pages, d, e)
		}
	}
}

// P4.1
func TestOf(t *testing.T) {
	for _, pages := range []int{1, 2, 3, 999, 1000} {
		image := make([]string, pages)
		for i := range image {
			image[i] = full(byte(i))
		}
		d, e := disk.Of(image)
		if d == nil || e != api.OK || d.Size() != pages || !slices.Equal(d.Image(), image) {
			t.Fatalf("Of %d pages: %d", pages, e)
		}
		waits(t, d)
		counts(t, d, 0, 0, 0)
	}
}

// P4.1
func TestOfRefuses(t *testing.T) {
	images := [][]string{nil, {}, {""}, slices.Repeat([]string{page.Blank()}, 1001)}
	for _, size := range []int{0, 1, 255, 257, 512} {
		for at := range 3 {
			image := []string{full(1), full(2), full(3)}
			image[at] = strings.Repeat("x", size)
			images = append(images, image)
		}
	}
	for _, image := range images {
		if d, e := disk.Of(image); d != nil || e != api.BadRequest {
			t.Errorf("Of %d pages: %v, %d", len(image), d, e)
		}
	}
}

// P4.1, R1
func TestNil(t *testing.T) {
	var d *disk.Disk
	s, e := d.Read(0)
	if s != "" || e != api.BadRequest || d.Write(0, page.Blank()) != api.BadRequest || d.Crash(nil, -1, 0) != api.BadRequest {
		t.Errorf("a nil disk: %q, %d", s, e)
	}
	d.Fuse(1)
	if d.Flush() != 0 || d.Image() != nil || d.Waits() != nil || d.Size() != 0 {
		t.Error("a nil disk has something")
	}
	counts(t, d, 0, 0, 0)
}

// R1: a disk that neither New nor Of made has no pages.
func TestZero(t *testing.T) {
	d := new(disk.Disk)
	s, e := d.Read(0)
	if s != "" || e != api.BadRequest || d.Write(0, page.Blank()) != api.BadRequest || d.Crash([]int{0}, -1, 0) != api.BadRequest {
		t.Errorf("a disk without pages: %q, %d", s, e)
	}
	if d.Flush() != 0 || len(d.Image()) != 0 || len(d.Waits()) != 0 || d.Size() != 0 {
		t.Error("a disk without pages has something")
	}
}

// P4.2
func TestWriteWaits(t *testing.T) {
	d := create(t, 3)
	for i, n := range []int{2, 0, 2, 1, 2} {
		write(t, d, n, full(byte(i+1)))
	}
	waits(t, d, 2, 0, 2, 1, 2)
	holds(t, d, 0, 0, 0)
	reads(t, d, 0, full(2))
	reads(t, d, 1, full(4))
	reads(t, d, 2, full(5))
	counts(t, d, 3, 5, 0)
}

// P4.2: what is written may be any bytes.
func TestWriteAnything(t *testing.T) {
	d := create(t, 1)
	for _, s := range []string{page.Blank(), full(0xee), full(0xff), strings.Repeat("é", 128)} {
		write(t, d, 0, s)
		reads(t, d, 0, s)
		d.Flush()
		reads(t, d, 0, s)
	}
}

// P4.2, R3
func TestWriteRefuses(t *testing.T) {
	d := create(t, 3)
	write(t, d, 1, full(7))
	for _, n := range []int{math.MinInt, -1, 3, 4, 1000, math.MaxInt} {
		if e := d.Write(n, full(1)); e != api.BadRequest {
			t.Errorf("Write(%d): %d", n, e)
		}
		if s, e := d.Read(n); s != "" || e != api.BadRequest {
			t.Errorf("Read(%d): %q, %d", n, s, e)
		}
	}
	for _, size := range []int{0, 1, 255, 257, 512} {
		if e := d.Write(0, strings.Repeat("x", size)); e != api.BadRequest {
			t.Errorf("Write of %d bytes: %d", size, e)
		}
	}
	waits(t, d, 1)
	counts(t, d, 0, 1, 0)
	holds(t, d, 0, 0, 0)
}

// P4.3
func TestFlush(t *testing.T) {
	d := create(t, 3)
	if n := d.Flush(); n != 0 {
		t.Errorf("Flush of nothing: %d", n)
	}
	write(t, d, 2, full(1))
	write(t, d, 0, full(2))
	write(t, d, 2, full(3))
	if n := d.Flush(); n != 3 {
		t.Errorf("Flush of three writes: %d", n)
	}
	holds(t, d, 2, 0, 3)
	waits(t, d)
	reads(t, d, 2, full(3))
	if n := d.Flush(); n != 0 {
		t.Errorf("Flush again: %d", n)
	}
	write(t, d, 1, full(4))
	waits(t, d, 1)
	if n := d.Flush(); n != 1 {
		t.Errorf("Flush of one more: %d", n)
	}
	holds(t, d, 2, 4, 3)
	counts(t, d, 1, 4, 4)
}

// P4.2, the fuse: its steps are Writes that tell no error, and Flushes.
func TestFuse(t *testing.T) {
	d := create(t, 2)
	d.Fuse(3)
	d.Write(2, full(9))
	d.Write(0, "")
	d.Read(0)
	write(t, d, 0, full(1))
	if n := d.Flush(); n != 1 {
		t.Errorf("Flush: %d", n)
	}
	write(t, d, 1, full(2))
	dead(t, d)
	holds(t, d, 1, 0)
	waits(t, d, 1)
	reads(t, d, 1, full(2))
	counts(t, d, 2, 2, 1)
}

// dead expects that nothing is done, nor counted.
func dead(t *testing.T, d *disk.Disk) {
	t.Helper()
	image, wait := d.Image(), d.Waits()
	r, w, f := d.Counts()
	for range 3 {
		if e := d.Write(0, full(9)); e != api.BadRequest {
			t.Errorf("Write on a dead disk: %d", e)
		}
		if n := d.Flush(); n != 0 {
			t.Errorf("Flush of a dead disk: %d", n)
		}
	}
	waits(t, d, wait...)
	counts(t, d, r, w, f)
	if !slices.Equal(d.Image(), image) {
		t.Error("a dead disk has changed")
	}
}

// P4.2, the fuse: it may be set at any time.
func TestFuseIsSet(t *testing.T) {
	d := create(t, 1)
	d.Fuse(0)
	dead(t, d)
	d.Fuse(1)
	d.Flush()
	dead(t, d)
	for _, none := range []int{-1, -2, math.MinInt} {
		d.Fuse(0)
		d.Fuse(none)
		for i := range 20 {
			write(t, d, 0, full(byte(i)))
			if n := d.Flush(); n != 1 {
				t.Errorf("Flush: %d", n)
			}
		}
	}
	d.Fuse(math.MaxInt)
	write(t, d, 0, full(1))
	holds(t, d, 19)
}

// P4.2, the fuse: a crash that is none leaves it, another one takes it away.
func TestCrashEndsTheFuse(t *testing.T) {
	d := create(t, 1)
	write(t, d, 0, full(1))
	d.Fuse(0)
	if e := d.Crash([]int{1}, -1, 0); e != api.BadRequest {
		t.Errorf("Crash of a write that is not there: %d", e)
	}
	dead(t, d)
	if e := d.Crash(nil, -1, 0); e != api.OK {
		t.Errorf("Crash of a dead disk: %d", e)
	}
	for i := range 20 {
		write(t, d, 0, full(byte(i)))
	}
	if n := d.Flush(); n != 20 {
		t.Errorf("Flush: %d", n)
	}
	d.Fuse(2)
	d.Crash(nil, -1, 0)
	for range 5 {
		write(t, d, 0, full(5))
	}
}

// five has writes of five that wait: of pages 0, 1, 0, 2, 0.
func five(t *testing.T) *disk.Disk {
	t.Helper()
	d := create(t, 3)
	for i, n := range []int{0, 1, 0, 2, 0} {
		write(t, d, n, full(byte(i+1)))
	}
	return d
}

// P4.3
func TestCrash(t *testing.T) {
	tests := []struct {
		kept []int
		torn int
		at   int
		want []byte
	}{
		{nil, -1, 0, []byte{0, 0, 0}},
		{[]int{}, -1, -7, []byte{0, 0, 0}},
		{[]int{0}, -1, 257, []byte{1, 0, 0}},
		{[]int{0, 2}, -1, math.MaxInt, []byte{3, 0, 0}},
		{[]int{2, 0}, -1, math.MinInt, []byte{3, 0, 0}},
		{[]int{4, 3, 1, 0}, -1, 0, []byte{5, 2, 4}},
		{[]int{0, 1, 2, 3, 4}, -1, 0, []byte{5, 2, 4}},
		{[]int{3}, 1, 0, []byte{0, 0xee, 4}},
		{[]int{3}, 1, 256, []byte{0, 2, 4}},
		{[]int{4}, 0, 0, []byte{5, 0, 0}},
		{[]int{0}, 4, 0, []byte{0xee, 0, 0}},
		{[]int{0, 4}, 2, 0, []byte{5, 0, 0}},
		{[]int{2, 0}, 4, 1, []byte{5, 0, 0}},
	}
	for _, x := range tests {
		d := five(t)
		if e := d.Crash(x.kept, x.torn, x.at); e != api.OK {
			t.Errorf("Crash(%v, %d, %d): %d", x.kept, x.torn, x.at, e)
		}
		holds(t, d, x.want...)
		waits(t, d)
		counts(t, d, 0, 5, 0)
		if n := d.Flush(); n != 0 {
			t.Errorf("Flush behind a crash: %d", n)
		}
		holds(t, d, x.want...)
	}
}

// P4.3: a page is torn at each byte.
func TestCrashTears(t *testing.T) {
	for at := 0; at <= 256; at++ {
		d := five(t)
		if e := d.Crash(nil, 3, at); e != api.OK {
			t.Errorf("Crash at %d: %d", at, e)
		}
		want := full(4)[:at] + full(0xee)[at:]
		reads(t, d, 2, want)
		if image := d.Image(); image[2] != want || image[0] != page.Blank() || image[1] != page.Blank() {
			t.Errorf("Crash at %d: %x", at, image)
		}
	}
}

// P4.3, R3
func TestCrashRefuses(t *testing.T) {
	tests := []struct {
		kept []int
		torn int
		at   int
	}{
		{[]int{-1}, -1, 0}, {[]int{5}, -1, 0}, {[]int{0, 1, 5}, -1, 0}, {[]int{math.MinInt}, -1, 0}, {[]int{math.MaxInt}, -1, 0},
		{nil, 5, 0}, {nil, -2, 0}, {nil, math.MinInt, 0}, {nil, math.MaxInt, 0},
		{[]int{0, 0}, -1, 0}, {[]int{1, 2, 3, 1}, -1, 0}, {[]int{0, 1, 2, 3, 4, 4}, -1, 0},
		{[]int{2}, 2, 0}, {[]int{0, 4}, 0, 0}, {[]int{0, 4}, 4, 256},
		{nil, 0, -1}, {nil, 0, 257}, {[]int{1}, 0, math.MinInt}, {[]int{1}, 0, math.MaxInt},
	}
	for _, x := range tests {
		d := five(t)
		if e := d.Crash(x.kept, x.torn, x.at); e != api.BadRequest {
			t.Errorf("Crash(%v, %d, %d): %d", x.kept, x.torn, x.at, e)
		}
		holds(t, d, 0, 0, 0)
		waits(t, d, 0, 1, 0, 2, 0)
		reads(t, d, 0, full(5))
	}
	d := create(t, 1)
	for _, torn := range []int{-2, 0, 1} {
		if e := d.Crash(nil, torn, 0); e != api.BadRequest {
			t.Errorf("Crash with %d torn of no writes: %d", torn, e)
		}
	}
}

// P4.5
func TestWhatIsFlushedStays(t *testing.T) {
	d := create(t, 2)
	write(t, d, 0, full(1))
	write(t, d, 1, full(2))
	d.Flush()
	write(t, d, 0, full(3))
	write(t, d, 1, full(4))
	d.Crash(nil, -1, 0)
	holds(t, d, 1, 2)
	reads(t, d, 0, full(1))
}

// P4.5
func TestCrashThatKeepsAllIsAFlush(t *testing.T) {
	a, b := five(t), five(t)
	a.Flush()
	b.Crash([]int{4, 1, 0, 2, 3}, -1, 0)
	if !slices.Equal(a.Image(), b.Image()) {
		t.Errorf("%x, flushed %x", b.Image(), a.Image())
	}
}

// R5
func TestNothingIsShared(t *testing.T) {
	image := append(make([]string, 0, 8), full(1), full(2))
	d, _ := disk.Of(image)
	image[0] = full(9)
	image = append(image, full(9))
	holds(t, d, 1, 2)
	write(t, d, 0, full(3))
	write(t, d, 1, full(4))
	got, wait := d.Image(), d.Waits()
	for i := range got[:cap(got)] {
		got[:cap(got)][i] = "x"
	}
	for i := range wait[:cap(wait)] {
		wait[:cap(wait)][i] = 7
	}
	holds(t, d, 1, 2)
	waits(t, d, 0, 1)
	kept := []int{1, 0}
	d.Crash(kept, -1, 0)
	if !slices.Equal(kept, []int{1, 0}) {
		t.Errorf("kept was changed: %v", kept)
	}
	holds(t, d, 3, 4)
	write(t, d, 0, full(5))
	before := d.Image()
	d.Flush()
	if before[0] != full(3) {
		t.Error("an image that was answered has changed")
	}
}

// plain is a disk that keeps all that was ever written, and says it word by word as the document does.
type plain struct {
	pages                  []string
	numbers                []int
	texts                  []string
	fuse                   int
	reads, writes, flushes int
}

func (p *plain) step() {
	if p.fuse > 0 {
		p.fuse--
	}
}

func (p *plain) write(n int, s string) api.Errno {
	if n < 0 || n >= len(p.pages) || len(s) != 256 || p.fuse == 0 {
		return api.BadRequest
	}
	p.numbers, p.texts = append(p.numbers, n), append(p.texts, s)
	p.writes++
	p.step()
	return api.OK
}

func (p *plain) read(n int) (string, api.Errno) {
	if n < 0 || n >= len(p.pages) {
		return "", api.BadRequest
	}
	p.reads++
	s := p.pages[n]
	for i, m := range p.numbers {
		if m == n {
			s = p.texts[i]
		}
	}
	return s, api.OK
}

func (p *plain) flush() int {
	if p.fuse == 0 {
		return 0
	}
	n := len(p.numbers)
	for i, m := range p.numbers {
		p.pages[m] = p.texts[i]
	}
	p.numbers, p.texts = nil, nil
	p.flushes++
	p.step()
	return n
}

func (p *plain) crash(kept []int, torn int, at int) api.Errno {
	all := slices.Clone(kept)
	if torn != -1 {
		all = append(all, torn)
		if at < 0 || at > 256 {
			return api.BadRequest
		}
	}
	for i, k := range all {
		if k < 0 || k >= len(p.numbers) || slices.Contains(all[:i], k) {
			return api.BadRequest
		}
	}
	for i, m := range p.numbers {
		switch {
		case i == torn:
			p.pages[m] = p.texts[i][:at] + full(0xee)[at:]
		case slices.Contains(kept, i):
			p.pages[m] = p.texts[i]
		}
	}
	p.numbers, p.texts, p.fuse = nil, nil, -1
	return api.OK
}

// P4.1 to P4.5, R6: long rows of calls, told beside the plain disk.
func TestAgainstPlain(t *testing.T) {
	for seed := range int64(200) {
		r := rand.New(rand.NewSource(seed))
		size := 1 + r.Intn(4)
		d := create(t, size)
		p := &plain{pages: slices.Repeat([]string{page.Blank()}, size), fuse: -1}
		for range 150 {
			together(t, r, d, p)
			waits(t, d, p.numbers...)
			counts(t, d, p.reads, p.writes, p.flushes)
			if !slices.Equal(d.Image(), p.pages) || d.Size() != size {
				t.Fatalf("seed %d: the disk holds something else", seed)
			}
		}
	}
}

// together does one call, or so, on both disks.
func together(t *testing.T, r *rand.Rand, d *disk.Disk, p *plain) {
	t.Helper()
	n := r.Intn(len(p.pages)+2) - 1
	switch r.Intn(12) {
	case 0, 1, 2, 3, 4:
		s := full(byte(r.Intn(256)))[:256-r.Intn(20)/19]
		if a, b := d.Write(n, s), p.write(n, s); a != b {
			t.Errorf("Write(%d): %d, want %d", n, a, b)
		}
	case 5, 6, 7:
		s, a := d.Read(n)
		if want, b := p.read(n); s != want || a != b {
			t.Errorf("Read(%d): %x, %d, want %x, %d", n, s, a, want, b)
		}
	case 8:
		if a, b := d.Flush(), p.flush(); a != b {
			t.Errorf("Flush: %d, want %d", a, b)
		}
	case 9:
		steps := r.Intn(12) - 2
		d.Fuse(steps)
		p.fuse = max(steps, -1)
	default:
		kept := r.Perm(len(p.numbers))
		kept = kept[:r.Intn(len(kept)+1)]
		if r.Intn(6) == 0 {
			kept = append(kept, r.Intn(len(p.numbers)+2)-1)
		}
		torn, at := r.Intn(len(p.numbers)+2)-1, r.Intn(259)-1
		if a, b := d.Crash(kept, torn, at), p.crash(kept, torn, at); a != b {
			t.Errorf("Crash(%v, %d, %d): %d, want %d", kept, torn, at, a, b)
		}
	}
}
