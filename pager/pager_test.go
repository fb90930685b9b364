package pager_test

import (
	"encoding/binary"
	"fmt"
	"hash/crc32"
	"math"
	"math/rand"
	"slices"
	"strings"
	"testing"
	"unsafe"

	"cadastre/api"
	"cadastre/disk"
	"cadastre/entry"
	"cadastre/journal"
	"cadastre/page"
	"cadastre/pager"
)

const mostTx = 1<<32 - 1

// long is a text of so many bytes, no two behind each other alike.
func long(size int, salt int) string {
	b := make([]byte, size)
	for i := range b {
		b[i] = byte(i*7 + salt*31 + 1)
	}
	return string(b)
}

// some are so many pages that may be a pager's; of another salt each one is another.
func some(n int, salt int) []api.Page {
	var out []api.Page
	for i := range n {
		out = append(out, api.Page{Kind: 1 + (i+salt)%4, Number: i, Body: long((i*37+salt*59)%231, i+salt)})
	}
	return out
}

// with is a list with one page more, or instead of that at its Number.
func with(l []api.Page, kind int, number int, body string) []api.Page {
	out := slices.Clone(l)
	if number == len(out) {
		out = append(out, api.Page{})
	}
	out[number] = api.Page{Kind: kind, Number: number, Body: body}
	return out
}

// readable is a list as a fault is told of it.
func readable(l []api.Page) string {
	var out strings.Builder
	for _, q := range l {
		fmt.Fprintf(&out, "{%d %d %q}", q.Kind, q.Number, q.Body)
	}
	return out.String()
}

// num are the bytes of a number, the highest one first.
func num(width int, n int) string {
	return string(binary.BigEndian.AppendUint64(nil, uint64(n))[8-width:])
}

// sealed are a page's bytes as the document says them, whether it may be or not.
func sealed(kind int, number int, body string) string {
	s := num(1, kind) + "\x00" + num(2, len(body)) + num(4, number) + body
	s += strings.Repeat("\x00", 252-len(s))
	return s + string(binary.LittleEndian.AppendUint32(nil, crc32.ChecksumIEEE([]byte(s))))
}

// headOf is the page 0 of a pager.
func headOf(tx int, count int) string { return sealed(1, 0, num(4, tx)+num(2, count)) }

// stageOf, commitOf and abortOf are the bytes of entries.
func stageOf(tx int, index int, q api.Page) string {
	return "\x01" + num(4, tx) + num(2, index) + num(1, q.Kind) + num(2, q.Number) + q.Body
}

func commitOf(tx int, l []api.Page) string {
	return "\x02" + num(4, tx) + num(2, len(l)) + num(2, len(l)) + num(4, int(entry.Sum(l)))
}

func abortOf(tx int) string { return "\x03" + num(4, tx) + "\x00\x00" }

// dirty are pages each of which has other bytes, none of them a page's, so that one is seen that was touched.
func dirty(pages int) []string {
	image := make([]string, pages)
	for i := range image {
		image[i] = strings.Repeat(string([]byte{byte(i)}), 255) + "\x77"
	}
	return image
}

func blank(pages int) []string { return slices.Repeat([]string{page.Blank()}, pages) }

func of(t *testing.T, image []string) *disk.Disk {
	t.Helper()
	d, e := disk.Of(image)
	if e != api.OK {
		t.Fatalf("disk.Of %d pages: %d", len(image), e)
	}
	return d
}

// step is a write, or, of page -1, a flush.
type step struct {
	n int
	s string
}

var flush = step{n: -1}

// journaled are the steps of a journal's Commit.
func journaled(base int, tx int, l []api.Page) []step {
	var out []step
	for i, q := range l {
		out = append(out, step{base + i, sealed(5, base+i, stageOf(tx, i, q))})
	}
	return append(out, flush, step{base + len(l), sealed(5, base+len(l), commitOf(tx, l))}, flush)
}

// placed are the steps by which pages come to their places, the first one behind all others.
func placed(l []api.Page) []step {
	var out []step
	for _, q := range l[1:] {
		out = append(out, step{q.Number, sealed(q.Kind, q.Number, q.Body)})
	}
	return append(out, flush, step{l[0].Number, sealed(l[0].Kind, l[0].Number, l[0].Body)}, flush)
}

// changesOf are those from some pages to others, in a transaction.
func changesOf(tx int, old []api.Page, l []api.Page) []api.Page {
	out := []api.Page{{Kind: 1, Number: 0, Body: num(4, tx+1) + num(2, len(l))}}
	for i, q := range l {
		if i >= len(old) || old[i] != q {
			out = append(out, api.Page{Kind: q.Kind, Number: i + 1, Body: q.Body})
		}
	}
	return out
}

// stepsOf are those of a Commit.
func stepsOf(base int, tx int, old []api.Page, l []api.Page) []step {
	c := changesOf(tx, old, l)
	return slices.Concat(journaled(base, tx, c), placed(c))
}

// done is what is on a disk for sure behind so many steps, and which writes wait.
func done(image []string, steps []step, many int) ([]string, []step) {
	out := slices.Clone(image)
	var waits []step
	for _, x := range steps[:min(many, len(steps))] {
		if x != flush {
			waits = append(waits, x)
			continue
		}
		for _, w := range waits {
			out[w.n] = w.s
		}
		waits = nil
	}
	return out, waits
}

// holds expects of a disk that image, and those writes that wait, each of another page.
func holds(t *testing.T, d *disk.Disk, want []string, waits []step, what string) {
	t.Helper()
	have := d.Image()
	for i := range want {
		if have[i] != want[i] {
			t.Errorf("%s: page %d is\n%x, want\n%x", what, i, have[i], want[i])
		}
	}
	var numbers []int
	for _, w := range waits {
		numbers = append(numbers, w.n)
		if s, _ := d.Read(w.n); s != w.s {
			t.Errorf("%s: of page %d waits\n%x, want\n%x", what, w.n, s, w.s)
		}
	}
	if !slices.Equal(d.Waits(), numbers) {
		t.Errorf("%s: %v waits, want %v", what, d.Waits(), numbers)
	}
}

// untouched expects that a call neither wrote nor flushed.
func untouched(t *testing.T, d *disk.Disk, what string, call func()) {
	t.Helper()
	image, waits := d.Image(), d.Waits()
	_, writes, flushes := d.Counts()
	call()
	_, w, f := d.Counts()
	if w != writes || f != flushes || !slices.Equal(d.Image(), image) || !slices.Equal(d.Waits(), waits) {
		t.Errorf("%s: %d writes, %d flushes", what, w-writes, f-flushes)
	}
}

func format(t *testing.T, d *disk.Disk, log int) *pager.Pager {
	t.Helper()
	p, e := pager.Format(d, log)
	if p == nil || e != api.OK {
		t.Fatalf("Format of %d pages, %d: %v, %d", d.Size(), log, p != nil, e)
	}
	return p
}

func open(t *testing.T, d *disk.Disk, log int) *pager.Pager {
	t.Helper()
	p, e := pager.Open(d, log)
	if p == nil || e != api.OK {
		t.Fatalf("Open of %d pages, %d: %v, %d", d.Size(), log, p != nil, e)
	}
	return p
}

func commit(t *testing.T, p *pager.Pager, l []api.Page) {
	t.Helper()
	if e := p.Commit(l); e != api.OK {
		t.Fatalf("Commit of %d pages: %d", len(l), e)
	}
}

// shows expects of a pager these pages, that transaction and that room.
func shows(t *testing.T, p *pager.Pager, l []api.Page, tx int, room int, what string) {
	t.Helper()
	if have := p.Pages(); !slices.Equal(have, l) {
		t.Fatalf("%s: pages\n%s, want\n%s", what, readable(have), readable(l))
	}
	if p.Tx() != tx || p.Room() != room {
		t.Fatalf("%s: Tx %d, Room %d, want %d, %d", what, p.Tx(), p.Room(), tx, room)
	}
}

// again expects that a disk is opened as such a pager, that nothing is written then, and that it is the same of a disk that is there again.
func again(t *testing.T, d *disk.Disk, log int, l []api.Page, tx int, what string) {
	t.Helper()
	room := d.Size() - log - 1
	untouched(t, d, what+": Open", func() { shows(t, open(t, d, log), l, tx, room, what+", opened") })
	shows(t, open(t, of(t, d.Image()), log), l, tx, room, what+", opened of its image")
}

// fails expects of an Open that error.
func fails(t *testing.T, d *disk.Disk, log int, want api.Errno, what string) {
	t.Helper()
	if p, e := pager.Open(d, log); p != nil || e != want {
		t.Errorf("Open %s: %v, %d, want %d", what, p != nil, e, want)
	}
}

// P23.1
func TestFormat(t *testing.T) {
	for _, x := range []struct{ pages, log int }{{4, 2}, {5, 2}, {5, 3}, {12, 5}, {902, 900}, {1000, 900}, {1000, 899}, {1000, 2}, {301, 299}} {
		for _, before := range [][]string{blank(x.pages), dirty(x.pages)} {
			d := of(t, before)
			p := format(t, d, x.log)
			base := x.pages - x.log
			want := slices.Clone(before)
			want[0], want[base] = headOf(1, 0), sealed(5, base, abortOf(1))
			holds(t, d, want, nil, "Format")
			if r, w, f := d.Counts(); r != 0 || w != 2 || f < 1 {
				t.Errorf("Format: %d reads, %d writes, %d flushes", r, w, f)
			}
			shows(t, p, nil, 1, base-1, "Format")
			again(t, d, x.log, nil, 1, "Format")
		}
	}
}

// P23.1: byte for byte, so that the test's own way of laying is seen to be right.
func TestFormatByHand(t *testing.T) {
	d := of(t, blank(6))
	format(t, d, 3)
	for i, ahead := range map[int]string{
		0: "\x01\x00\x00\x06\x00\x00\x00\x00" + "\x00\x00\x00\x01\x00\x00",
		3: "\x05\x00\x00\x07\x00\x00\x00\x03" + "\x03\x00\x00\x00\x01\x00\x00",
	} {
		ahead += strings.Repeat("\x00", 252-len(ahead))
		if s, _ := d.Read(i); s != ahead+string(binary.LittleEndian.AppendUint32(nil, crc32.ChecksumIEEE([]byte(ahead)))) {
			t.Errorf("page %d is %x", i, s)
		}
	}
}

// P23.1: of a disk that had another pager, too.
func TestFormatAgain(t *testing.T) {
	d := of(t, blank(12))
	p := format(t, d, 5)
	commit(t, p, some(3, 0))
	commit(t, p, some(2, 1))
	p = format(t, d, 6)
	shows(t, p, nil, 1, 5, "Format again")
	again(t, d, 6, nil, 1, "Format again")
	commit(t, p, some(4, 2))
	again(t, d, 6, some(4, 2), 2, "Commit behind it")
}

// P23.1, P23.3
func TestWhatMayNotBe(t *testing.T) {
	for _, x := range []struct {
		d   *disk.Disk
		log int
	}{
		{nil, 2}, {nil, 900}, {nil, 0}, {new(disk.Disk), 2}, {new(disk.Disk), 0}, {new(disk.Disk), -2},
		{of(t, blank(10)), 1}, {of(t, blank(10)), 0}, {of(t, blank(10)), -1}, {of(t, blank(10)), math.MinInt}, {of(t, blank(10)), math.MaxInt},
		{of(t, blank(10)), 9}, {of(t, blank(10)), 10}, {of(t, blank(10)), 11}, {of(t, blank(10)), 900},
		{of(t, blank(1)), 2}, {of(t, blank(2)), 2}, {of(t, blank(3)), 2}, {of(t, blank(3)), 1},
		{of(t, blank(901)), 900}, {of(t, blank(903)), 901}, {of(t, blank(1000)), 901}, {of(t, blank(1000)), 999}, {of(t, blank(1000)), 998},
	} {
		untouched(t, x.d, "what may not be", func() {
			if p, e := pager.Format(x.d, x.log); p != nil || e != api.BadRequest {
				t.Errorf("Format of %d pages, %d: %v, %d", x.d.Size(), x.log, p != nil, e)
			}
			fails(t, x.d, x.log, api.BadRequest, "of what may not be")
		})
	}
	whole := of(t, blank(6))
	format(t, whole, 3)
	fails(t, whole, 1, api.BadRequest, "with a log of 1")
	fails(t, whole, 5, api.BadRequest, "with a page ahead of the log")
	again(t, whole, 4, nil, 1, "a log that is another") // the head tells of no pages, and the journal is not asked for any
}

// P23.1: a head's write, an Abort's, the flush.
func TestFormatSteps(t *testing.T) {
	steps := []step{{0, headOf(1, 0)}, {4, sealed(5, 4, abortOf(1))}, flush}
	for fuse := range 6 {
		d := of(t, dirty(6))
		d.Fuse(fuse)
		p, e := pager.Format(d, 2)
		if fuse < 2 && (p != nil || e != api.ErrForm) || fuse >= 2 && (p == nil || e != api.OK) {
			t.Errorf("Format, a fuse of %d: %v, %d", fuse, p != nil, e)
		}
		image, waits := done(dirty(6), steps, fuse)
		holds(t, d, image, waits, "Format behind a fuse")
	}
}

// P23.1, R1: of nil, and of one that neither Format nor Open made.
func TestNone(t *testing.T) {
	j, _ := journal.New(of(t, blank(10)), 5, 5, 1)
	for _, p := range []*pager.Pager{nil, new(pager.Pager), {Journal: j}} {
		for _, l := range [][]api.Page{nil, some(1, 0), some(2000, 0)} {
			if e := p.Commit(l); e != api.BadRequest {
				t.Errorf("Commit of %d pages: %d", len(l), e)
			}
		}
		if l := p.Pages(); len(l) != 0 || p.Room() != 0 || p.Tx() != 0 {
			t.Errorf("%s, Room %d, Tx %d", readable(l), p.Room(), p.Tx())
		}
	}
}

// row are pages, and then others, and so on: none, one and all of which are as they were, fewer, and more.
func row() [][]api.Page {
	a := some(3, 0)
	return [][]api.Page{
		nil, a, a, with(a, 2, 1, "other"), with(a, 2, 1, "othes"), with(a, 3, 1, "othes"), some(3, 1), some(1, 1), some(3, 1), some(2, 2), {}, {}, some(4, 3),
		with(some(4, 3), 1, 4, ""), with(some(4, 3), 1, 4, "\x00"), some(4, 3), with(some(4, 3), 1, 4, "\x00"),
		some(1, 0), some(2, 0), a, some(1, 4), some(0, 0), some(6, 0)[:1], with(some(1, 0), 4, 1, long(230, 5)),
	}
}

// P23.2: its steps, and just these; what is as it was is not written.
func TestCommit(t *testing.T) {
	for _, x := range []struct{ pages, log int }{{14, 7}, {12, 6}, {1000, 900}, {907, 7}} {
		d := of(t, blank(x.pages))
		p := format(t, d, x.log)
		base := x.pages - x.log
		var old []api.Page
		for i, l := range row() {
			tx := i + 1
			steps := stepsOf(base, tx, old, l)
			want, _ := done(d.Image(), steps, len(steps))
			_, writes, flushes := d.Counts()
			if len(l) > base-1 {
				t.Fatalf("row %d has no room", i)
			}
			commit(t, p, l)
			_, w, f := d.Counts()
			if n := len(changesOf(tx, old, l)); w-writes != 2*n+1 || f-flushes != 4 {
				t.Errorf("Commit %d, %d changes: %d writes, %d flushes", i, n, w-writes, f-flushes)
			}
			holds(t, d, want, nil, "Commit")
			shows(t, p, l, tx+1, base-1, "Commit")
			again(t, d, x.log, l, tx+1, "Commit")
			old = l
		}
	}
}

// P23.2: a page that is as it was is written neither to the journal nor to its place, whatever stands there by now.
func TestAsItWas(t *testing.T) {
	d := of(t, blank(14))
	p := format(t, d, 7)
	a := some(4, 0)
	commit(t, p, a)
	for i := range a {
		d.Write(i+1, dirty(14)[i+1])
	}
	d.Flush()
	b := with(a, 3, 2, "other")
	want := d.Image()
	want[0], want[3] = headOf(3, 4), sealed(3, 3, "other")
	c := []api.Page{{Kind: 1, Number: 0, Body: num(4, 3) + num(2, 4)}, {Kind: 3, Number: 3, Body: "other"}}
	for i, q := range c {
		want[7+i] = sealed(5, 7+i, stageOf(2, i, q))
	}
	want[9] = sealed(5, 9, commitOf(2, c))
	commit(t, p, b)
	holds(t, d, want, nil, "Commit of a page that is another")
	shows(t, p, b, 3, 6, "Commit of a page that is another")
	want[0] = headOf(4, 4)
	commit(t, p, b)
	if !slices.Equal(d.Image()[:7], want[:7]) {
		t.Error("Commit of pages that are as they were has changed the pages")
	}
}

// P23.2: what was opened is as it was, too.
func TestAsItWasOpened(t *testing.T) {
	d := of(t, blank(14))
	a := some(4, 0)
	commit(t, format(t, d, 7), a)
	p := open(t, d, 7)
	_, writes, _ := d.Counts()
	commit(t, p, with(a, 1, 3, "other"))
	if _, w, _ := d.Counts(); w-writes != 5 {
		t.Errorf("Commit of one page that is another: %d writes", w-writes)
	}
	again(t, d, 7, with(a, 1, 3, "other"), 3, "Commit of a pager that was opened")
}

// P23.2: by hand.
func TestCommitByHand(t *testing.T) {
	d := of(t, blank(9))
	p := format(t, d, 4)
	commit(t, p, []api.Page{{Kind: 2, Number: 0, Body: "ab"}, {Kind: 4, Number: 1}})
	staged := "\x01\x00\x00\x00\x01\x00\x00\x01\x00\x00\x00\x00\x00\x02\x00\x02" + "\x01\x00\x00\x00\x01\x00\x01\x02\x00\x01ab" + "\x01\x00\x00\x00\x01\x00\x02\x04\x00\x02"
	sum := string(binary.BigEndian.AppendUint32(nil, crc32.ChecksumIEEE([]byte(staged))))
	want := []string{
		"\x01\x00\x00\x06\x00\x00\x00\x00" + "\x00\x00\x00\x02\x00\x02",
		"\x02\x00\x00\x02\x00\x00\x00\x01" + "ab",
		"\x04\x00\x00\x00\x00\x00\x00\x02",
		"", "",
		"\x05\x00\x00\x10\x00\x00\x00\x05" + staged[:16],
		"\x05\x00\x00\x0c\x00\x00\x00\x06" + staged[16:28],
		"\x05\x00\x00\x0a\x00\x00\x00\x07" + staged[28:],
		"\x05\x00\x00\x0d\x00\x00\x00\x08" + "\x02\x00\x00\x00\x01\x00\x03\x00\x03" + sum,
	}
	for i, ahead := range want {
		s := page.Blank()
		if ahead != "" {
			ahead += strings.Repeat("\x00", 252-len(ahead))
			s = ahead + string(binary.LittleEndian.AppendUint32(nil, crc32.ChecksumIEEE([]byte(ahead))))
		}
		if have, _ := d.Read(i); have != s {
			t.Errorf("page %d is\n%x, want\n%x", i, have, s)
		}
	}
}

// unfit are pages that may not be one, at a place.
func unfit(place int) []api.Page {
	return []api.Page{
		{Number: place}, {Kind: 0, Number: place, Body: "x"}, {Kind: 5, Number: place}, {Kind: 6, Number: place}, {Kind: -1, Number: place}, {Kind: 257, Number: place}, {Kind: math.MaxInt, Number: place},
		{Kind: 1, Number: place + 1}, {Kind: 1, Number: place - 1}, {Kind: 1, Number: -1}, {Kind: 1, Number: 999}, {Kind: 1, Number: 1000}, {Kind: 1, Number: place + 65536}, {Kind: 1, Number: math.MinInt},
		{Kind: 1, Number: place, Body: long(231, 0)}, {Kind: 4, Number: place, Body: long(244, 0)}, {Kind: 2, Number: place, Body: long(5000, 0)},
		{Kind: 5, Number: place + 1, Body: long(231, 0)},
	}
}

// P23.2, R3: what is refused changes nothing.
func TestCommitRefuses(t *testing.T) {
	d := of(t, blank(14))
	p := format(t, d, 7)
	a := some(4, 0)
	commit(t, p, a)
	refuse := func(l []api.Page, want api.Errno, what string) {
		t.Helper()
		untouched(t, d, what, func() {
			if e := p.Commit(l); e != want {
				t.Errorf("Commit of %d pages, %s: %d, want %d", len(l), what, e, want)
			}
		})
		shows(t, p, a, 2, 6, what)
	}
	for place := range 5 {
		for _, q := range unfit(place) {
			for _, many := range []int{5, 6, 7, 8, 100} { // of more than Room, and of more changes than the journal takes, too (R2)
				l := some(many, 1)
				l[place] = q
				refuse(l, api.BadRequest, "with one that may not be")
			}
			refuse(append(some(5, 0)[:place:place], q), api.BadRequest, "the last of which may not be")
		}
	}
	refuse(a[1:], api.BadRequest, "without the first one")
	refuse([]api.Page{a[1], a[0]}, api.BadRequest, "turned round")
	refuse([]api.Page{a[0], a[0]}, api.BadRequest, "one of them twice")
	for _, many := range []int{7, 8, 100, 999, 1000} {
		refuse(some(many, 1), api.DiskFull, "more than Room") // and more than the journal's Room (R2)
	}
	refuse(some(1001, 1), api.BadRequest, "of which the last one may not be staged")
	refuse(some(6, 1), api.JournalFull, "all of them new")
	commit(t, p, with(with(a, 1, 0, "x"), 2, 3, "y"))
	again(t, d, 7, with(with(a, 1, 0, "x"), 2, 3, "y"), 3, "Commit behind those that were refused")
}

// P23.1, P23.2: as many as Room, and one more.
func TestRoom(t *testing.T) {
	for _, x := range []struct{ pages, log int }{{4, 2}, {7, 4}, {20, 11}, {902, 900}, {1000, 900}, {1000, 501}, {1000, 500}} {
		d := of(t, blank(x.pages))
		p := format(t, d, x.log)
		room := x.pages - x.log - 1
		if p.Room() != room {
			t.Fatalf("%d pages, %d: Room %d", x.pages, x.log, p.Room())
		}
		if e := p.Commit(some(room+1, 0)); e != api.DiskFull {
			t.Errorf("Commit of %d pages, Room %d: %d", room+1, room, e)
		}
		tx := 1
		if room+1 > x.log-1 {
			if e := p.Commit(some(room, 0)); e != api.JournalFull {
				t.Errorf("Commit of %d pages, a log of %d: %d", room, x.log, e)
			}
		}
		for many := 0; many < room && x.log > 2; tx++ { // as many at once as the log takes
			many = min(many+x.log-2, room)
			commit(t, p, some(room, 0)[:many])
		}
		if x.log > 2 {
			again(t, d, x.log, some(room, 0), tx, "a full disk")
		}
		if e := p.Commit(some(room+1, 0)); e != api.DiskFull {
			t.Errorf("Commit of %d pages, Room %d: %d", room+1, room, e)
		}
	}
}

// P23.2: of a log of 2 there is room for the head alone.
func TestLogOfTwo(t *testing.T) {
	d := of(t, blank(5))
	p := format(t, d, 2)
	for range 3 {
		if e := p.Commit(some(1, 0)); e != api.JournalFull {
			t.Errorf("Commit of a page: %d", e)
		}
		commit(t, p, nil)
	}
	again(t, d, 2, nil, 4, "three Commits of no pages")
}

// P23.2: as many changes as the journal's Room, and one more: the head is one of them.
func TestJournalFull(t *testing.T) {
	for _, log := range []int{3, 4, 5, 8} {
		d := of(t, blank(30))
		p := format(t, d, log)
		most := log - 2
		refused := func(l []api.Page, old []api.Page, tx int) {
			t.Helper()
			untouched(t, d, "JournalFull", func() {
				if e := p.Commit(l); e != api.JournalFull {
					t.Errorf("a log of %d: Commit of too many changes: %d", log, e)
				}
			})
			shows(t, p, old, tx, 29-log, "JournalFull")
		}
		refused(some(most+1, 0), nil, 1)
		a := some(most, 0)
		commit(t, p, a)
		refused(some(2*most+1, 0), a, 2)
		b := some(2*most, 0)
		commit(t, p, b)
		for i := range most {
			c := with(b, 1, i, "x")
			c = with(c, 2, 2*most-1, "y")
			if most > 1 {
				commit(t, p, c)
				commit(t, p, b)
			} else {
				refused(c, b, p.Tx())
			}
		}
		refused(some(2*most, 1), b, p.Tx())
		commit(t, p, nil)
		refused(b, nil, p.Tx()) // what there was once is not there any more
		commit(t, p, a)
		again(t, d, log, a, p.Tx(), "JournalFull")
	}
}

// P23.2: the last transaction.
func TestLastTransaction(t *testing.T) {
	image := blank(9)
	image[0] = headOf(mostTx-1, 0)
	d := of(t, image)
	p := open(t, d, 4)
	shows(t, p, nil, mostTx-1, 4, "the last transaction but one")
	commit(t, p, some(2, 0))
	shows(t, p, some(2, 0), mostTx, 4, "the last transaction")
	again(t, d, 4, some(2, 0), mostTx, "the last transaction")
	for _, p := range []*pager.Pager{p, open(t, d, 4)} {
		for _, x := range []struct {
			l    []api.Page
			want api.Errno
		}{
			{nil, api.JournalFull}, {some(2, 0), api.JournalFull}, {some(2, 1), api.JournalFull}, {some(4, 1), api.JournalFull},
			{some(5, 1), api.DiskFull}, {some(3, 0)[1:], api.BadRequest},
		} {
			untouched(t, d, "Commit of the last transaction", func() {
				if e := p.Commit(x.l); e != x.want {
					t.Errorf("Commit of the last transaction: %d, want %d", e, x.want)
				}
			})
			shows(t, p, some(2, 0), mostTx, 4, "behind it")
		}
	}
}

// crashes calls of each crash that there may be of so many writes that wait; of many of them just of those that keep none, one, all, and all but one.
func crashes(waits int, call func(kept []int, torn int, at int)) {
	all := 1<<waits - 1
	for set := range all + 1 {
		var kept []int
		for i := range waits {
			if set>>i&1 == 1 {
				kept = append(kept, i)
			}
		}
		if waits > 4 && len(kept) > 1 && len(kept) < waits-1 {
			continue
		}
		call(kept, -1, 0)
		for torn := range waits {
			if set>>torn&1 == 0 {
				for _, at := range []int{0, 9, 16, 252, 255, 256} {
					call(kept, torn, at)
				}
			}
		}
	}
}

// pair are pages that are committed, and others that are under way behind them.
type pair struct{ old, new []api.Page }

func pairs() []pair {
	a := some(3, 0)
	return []pair{
		{nil, nil}, {nil, a}, {a, nil}, {a, a}, {a, with(a, 2, 1, "other")}, {a, some(3, 1)}, {a, some(1, 0)}, {a, some(1, 1)}, {some(1, 0), some(4, 0)}, {some(1, 0), some(3, 1)}, {some(2, 0), some(2, 1)},
	}
}

// begun is a disk on which the old pages were committed, thrice, so that the log has pages of other transactions; 4 is the next one.
func begun(t *testing.T, x pair) []string {
	t.Helper()
	d := of(t, blank(14))
	p := format(t, d, 7)
	commit(t, p, some(5, 7))
	commit(t, p, some(2, 8))
	commit(t, p, x.old)
	return d.Image()
}

// P23.2, P23.4: of each step at which the fuse may end, and of each crash that there may be behind it.
func TestCrashes(t *testing.T) {
	for i, x := range pairs() {
		before := begun(t, x)
		steps := stepsOf(7, 4, x.old, x.new)
		n := len(changesOf(4, x.old, x.new))
		toHead := len(steps) - 1 // behind so many steps each write is done
		for fuse := range len(steps) + 2 {
			run := func() *disk.Disk {
				d := of(t, before)
				p := open(t, d, 7)
				d.Fuse(fuse)
				e := p.Commit(x.new)
				if fuse < toHead {
					if e != api.ErrForm {
						t.Fatalf("pair %d, a fuse of %d: Commit: %d", i, fuse, e)
					}
					shows(t, p, x.old, 4, 6, "behind ErrForm")
				} else {
					if e != api.OK {
						t.Fatalf("pair %d, a fuse of %d: Commit: %d", i, fuse, e)
					}
					shows(t, p, x.new, 5, 6, "behind OK")
				}
				return d
			}
			d := run()
			image, waits := done(before, steps, fuse)
			holds(t, d, image, waits, "Commit behind a fuse")
			crashes(len(waits), func(kept []int, torn int, at int) {
				d := run()
				if e := d.Crash(kept, torn, at); e != api.OK {
					t.Fatalf("Crash(%v, %d, %d): %d", kept, torn, at, e)
				}
				// it is there from when its Commit stands in the journal
				there := fuse > n+2 || fuse == n+2 && (len(kept) == 1 || at == 256)
				l, tx := x.old, 4
				if there {
					l, tx = x.new, 5
				}
				shows(t, open(t, d, 7), l, tx, 6, "behind a crash")
				again(t, d, 7, l, tx, "behind a crash")
				if len(d.Waits()) != 0 {
					t.Fatalf("behind a crash and Open: %v waits", d.Waits())
				}
			})
		}
	}
}

// P23.3, P23.4: a crash at each step of Open itself.
func TestCrashesOfOpen(t *testing.T) {
	for i, x := range pairs() {
		before := begun(t, x)
		steps := stepsOf(7, 4, x.old, x.new)
		c := changesOf(4, x.old, x.new)
		for from := len(c) + 3; from <= len(steps); from++ { // the journal has all
			image, waits := done(before, steps, from)
			for lost := -1; lost < len(waits); lost++ { // which ones came, and one of them torn
				half := slices.Clone(image)
				for w, x := range waits {
					half[x.n] = x.s
					if w == lost {
						half[x.n], _ = page.Torn(x.s, 9)
					}
				}
				crashOpen(t, half, c, x, i)
			}
			crashOpen(t, image, c, x, i)
		}
	}
}

// crashOpen opens a disk whose journal has all of a Commit, or whose head tells of it, with each fuse, and again behind each crash.
func crashOpen(t *testing.T, image []string, c []api.Page, x pair, i int) {
	t.Helper()
	steps := placed(c)
	if image[0] == headOf(5, len(x.new)) {
		steps = nil // it was done already
	}
	for fuse := range len(steps) + 2 {
		run := func() *disk.Disk {
			d := of(t, image)
			d.Fuse(fuse)
			pager.Open(d, 7)
			return d
		}
		d := run()
		want, waits := done(image, steps, fuse)
		holds(t, d, want, waits, "Open behind a fuse")
		crashes(len(waits), func(kept []int, torn int, at int) {
			d := run()
			d.Crash(kept, torn, at)
			p := open(t, d, 7)
			shows(t, p, x.new, 5, 6, "Open behind a crash of Open")
			again(t, d, 7, x.new, 5, "behind a crash of Open")
		})
	}
	d := of(t, image)
	p := open(t, d, 7)
	commit(t, p, some(2, 9))
	again(t, d, 7, some(2, 9), 6, "Commit behind Open")
}

// P23.4: a long row of Commits, crashes and Opens.
func TestManyCrashes(t *testing.T) {
	r := rand.New(rand.NewSource(1))
	d := of(t, blank(14))
	p := format(t, d, 7)
	var last []api.Page
	tx, olds, news := 1, 0, 0
	for range 4000 {
		l := slices.Clone(some(r.Intn(7), r.Intn(2)))
		if r.Intn(3) > 0 { // near to what there is
			l = slices.Clone(last)[:r.Intn(len(last)+1)]
			if len(l) > 0 {
				l[r.Intn(len(l))].Body = long(r.Intn(231), r.Intn(3))
			}
		}
		if r.Intn(4) > 0 {
			d.Fuse(r.Intn(26))
		}
		e := p.Commit(l)
		full := len(changesOf(tx, last, l)) > 6
		if (e == api.JournalFull) != full {
			t.Fatalf("Commit of %d changes: %d", len(changesOf(tx, last, l)), e)
		}
		var kept []int
		torn := -1
		for i := range d.Waits() {
			if r.Intn(2) == 0 {
				kept = append(kept, i)
			} else if r.Intn(3) == 0 {
				torn = i
			}
		}
		d.Crash(kept, torn, r.Intn(257))
		p = open(t, d, 7)
		now := p.Pages()
		switch {
		case e == api.OK && (p.Tx() != tx+1 || !slices.Equal(now, l)), full && p.Tx() != tx:
			t.Fatalf("behind a Commit that told %d: Tx %d, was %d", e, p.Tx(), tx)
		case p.Tx() == tx && slices.Equal(now, last):
			olds++
		case p.Tx() == tx+1 && slices.Equal(now, l):
			tx, last = tx+1, l
			news++
		default:
			t.Fatalf("behind a Commit that told %d: Tx %d, was %d; pages %s", e, p.Tx(), tx, readable(now))
		}
		again(t, d, 7, last, tx, "behind a crash")
	}
	if olds < 500 || news < 500 {
		t.Errorf("%d crashes had the old pages, %d the new ones", olds, news)
	}
}

// P23.2: of no use, till the disk has crashed, and is opened.
func TestOfNoUse(t *testing.T) {
	a, b := some(3, 0), some(3, 1)
	before := begun(t, pair{old: a})
	steps := stepsOf(7, 4, a, b)
	for fuse := range len(steps) - 1 {
		d := of(t, before)
		p := open(t, d, 7)
		d.Fuse(fuse)
		use := func(what string) {
			untouched(t, d, what, func() {
				for _, x := range []struct {
					l []api.Page
					e api.Errno
				}{{b, api.ErrForm}, {a, api.ErrForm}, {nil, api.ErrForm}, {some(7, 0), api.DiskFull}, {some(6, 1), api.JournalFull}, {a[1:], api.BadRequest}} {
					if e := p.Commit(x.l); e != x.e {
						t.Errorf("%s: Commit of %d pages: %d, want %d", what, len(x.l), e, x.e)
					}
				}
			})
			shows(t, p, a, 4, 6, what)
		}
		if e := p.Commit(b); e != api.ErrForm {
			t.Fatalf("a fuse of %d: Commit: %d", fuse, e)
		}
		use("on a disk that has died")
		d.Crash(nil, -1, 0)
		use("behind a crash")
		p = open(t, d, 7)
		l, tx := a, 4
		if fuse >= 4+3 {
			l, tx = b, 5
		}
		shows(t, p, l, tx, 6, "Open behind a crash")
		commit(t, p, some(2, 2))
		again(t, d, 7, some(2, 2), tx+1, "Commit behind Open")
	}
}

// noHeads are pages that are none, of a Room of 6.
func noHeads() []string {
	torn, _ := page.Torn(headOf(4, 2), 9)
	turned := []byte(headOf(4, 2))
	turned[100] ^= 1
	good := num(4, 4) + num(2, 2)
	return []string{
		page.Blank(), strings.Repeat("\xee", 256), torn, string(turned), dirty(2)[1],
		sealed(2, 0, good), sealed(3, 0, good), sealed(4, 0, good), sealed(5, 0, good), sealed(6, 0, good), sealed(0, 0, good),
		sealed(1, 1, good), sealed(1, 7, good), sealed(1, 999, good), sealed(1, 1000, good), sealed(1, 1<<31, good),
		sealed(1, 0, ""), sealed(1, 0, good[:5]), sealed(1, 0, good+"\x00"), sealed(1, 0, "\x00"+good),
		headOf(0, 0), headOf(0, 2), headOf(4, 7), headOf(4, 256), headOf(4, 65535), headOf(mostTx, 7),
	}
}

// P23.3: page 0 is no head, and the journal tells nothing of it, or another transaction, or all.
func TestOpenWithoutAHead(t *testing.T) {
	a := some(2, 0)
	whole := begun(t, pair{old: a})
	c := changesOf(9, some(2, 3), a)
	staged, _ := done(whole, journaled(7, 9, c), 9)
	for i, s := range noHeads() {
		at := func(image []string, n int, text string) *disk.Disk {
			out := slices.Clone(image)
			out[0], out[n] = s, text
			return of(t, out)
		}
		for _, first := range []string{
			page.Blank(), dirty(8)[7], sealed(5, 7, ""), sealed(5, 7, "\x04"), sealed(5, 7, abortOf(0)), sealed(5, 7, abortOf(4)), sealed(5, 7, abortOf(3)), sealed(5, 7, stageOf(3, 0, api.Page{})),
			sealed(5, 7, stageOf(3, 1, api.Page{Kind: 1})), sealed(5, 8, abortOf(3)), sealed(1, 7, abortOf(3)), sealed(5, 7, stageOf(3, 0, api.Page{Kind: 1})+"x"), sealed(5, 7, commitOf(3, a)),
		} {
			d := at(whole, 7, first)
			untouched(t, d, "Open", func() { fails(t, d, 7, api.ErrSum, "without a head, and without a journal") })
		}
		d := at(whole, 1, whole[1]) // the journal has all of the transaction that was last
		shows(t, open(t, d, 7), a, 4, 6, "without a head")
		again(t, d, 7, a, 4, "without a head")
		d = at(staged, 1, page.Blank())
		shows(t, open(t, d, 7), a, 10, 6, "without a head, and without a page")
		again(t, d, 7, a, 10, "without a head, and without a page")
		for n := 8; n <= 7+len(c); n++ { // one that is missing in the journal
			d = at(staged, n, page.Blank())
			untouched(t, d, "Open", func() { fails(t, d, 7, api.ErrSum, "without a head, and without all of the journal") })
		}
		if i == 0 {
			fails(t, of(t, blank(14)), 7, api.ErrSum, "of blank pages")
			fails(t, of(t, dirty(14)), 7, api.ErrSum, "of other bytes")
		}
	}
}

// P23.3: what is committed tells no head itself.
func TestOpenOfACommitWithoutAHead(t *testing.T) {
	a := some(2, 0)
	whole := begun(t, pair{old: a})
	for _, q := range []api.Page{
		{Kind: 2, Number: 0, Body: num(4, 5) + num(2, 2)}, {Kind: 1, Number: 0, Body: num(4, 5)}, {Kind: 1, Number: 0, Body: num(4, 0) + num(2, 2)}, {Kind: 1, Number: 0, Body: num(4, 5) + num(2, 7)},
		{Kind: 1, Number: 0, Body: num(4, 5) + num(2, 6)}, // of a page that there never was
	} {
		l := []api.Page{q, {Kind: 3, Number: 1, Body: "other"}}
		image, _ := done(whole, journaled(7, 4, l), 6)
		d := of(t, image)
		fails(t, d, 7, api.ErrSum, "of a commit without a head")
		want, _ := done(image, placed(l), 4)
		holds(t, d, want, nil, "Open of a commit without a head")
	}
	// the first one's place is its own, and that of the others, too
	l := []api.Page{{Kind: 2, Number: 2, Body: "second"}, {Kind: 1, Number: 0, Body: num(4, 77) + num(2, 2)}, {Kind: 3, Number: 1, Body: "first"}}
	image, _ := done(whole, journaled(7, 4, l), 7)
	d := of(t, image)
	p := open(t, d, 7)
	shows(t, p, []api.Page{{Kind: 3, Number: 0, Body: "first"}, {Kind: 2, Number: 1, Body: "second"}}, 77, 6, "of a head that is not the first one")
	want, _ := done(image, placed(l), 5)
	holds(t, d, want, nil, "Open of a head that is not the first one")
	if _, w, f := d.Counts(); w != 3 || f != 2 {
		t.Errorf("Open of a commit of three pages: %d writes, %d flushes", w, f)
	}
}

// P23.3: a commit of another transaction than the head's counts for nothing.
func TestOpenOfAnotherTransaction(t *testing.T) {
	a := some(2, 0)
	whole := begun(t, pair{old: a})
	for _, tx := range []int{1, 3, 5, 4 + 256, mostTx} {
		image, _ := done(whole, journaled(7, tx, changesOf(tx, a, some(2, 1))), 7)
		again(t, of(t, image), 7, a, 4, "with a commit of another transaction")
	}
	for _, tx := range []int{1, 4, 5, 1 << 31, mostTx} {
		image, _ := done(whole, []step{{0, headOf(tx, 2)}, flush}, 2)
		again(t, of(t, image), 7, a, tx, "with a head of another transaction")
	}
}

// P23.3: of the transaction that is next all is written to its place, and the head last.
func TestOpenWrites(t *testing.T) {
	a, b := some(2, 0), some(4, 1)
	c := changesOf(4, a, b)
	image, _ := done(begun(t, pair{old: a}), journaled(7, 4, c), 20)
	for fuse := range 8 {
		d := of(t, image)
		d.Fuse(fuse)
		p, e := pager.Open(d, 7)
		want, waits := done(image, placed(c), fuse)
		holds(t, d, want, waits, "Open behind a fuse")
		if fuse >= 6 {
			shows(t, p, b, 5, 6, "Open behind a fuse that was long enough")
			continue
		}
		// what stands there is read, though it waits: the old head, which tells of two pages
		shows(t, p, slices.Concat(b[:min(fuse, 2)], a[min(fuse, 2):]), 4, 6, "Open behind a fuse")
		if e != api.OK || p.Commit(nil) != api.ErrForm {
			t.Errorf("Open behind a fuse of %d: %d", fuse, e)
		}
	}
}

// P23.3: a page that may not be written ends it: no write, and no flush.
func TestOpenOfAPageOfKindZero(t *testing.T) {
	a, b := some(2, 0), some(4, 1)
	for at := range 5 {
		for _, q := range []api.Page{{Number: at}, {Number: 13}, {Number: 999}, {Kind: 1, Number: 14, Body: "x"}, {Kind: 2, Number: 999}} {
			c := changesOf(4, a, b)
			c[at] = q
			image, _ := done(begun(t, pair{old: a}), journaled(7, 4, c), 20)
			d := of(t, image)
			p := open(t, d, 7)
			many := at - 1 // writes wait, of the pages ahead of it
			if at == 0 {
				many = 5 // the others and their flush: it would be the last one
			}
			want, waits := done(image, placed(c), many)
			holds(t, d, want, waits, "Open of a page that may not be written")
			if _, w, f := d.Counts(); w != min(many, 4) || f != many/5 {
				t.Errorf("Open of a page that may not be written, at %d: %d writes, %d flushes", at, w, f)
			}
			l := slices.Concat(b[:min(many, 2)], a[min(many, 2):])
			shows(t, p, l, 4, 6, "Open of a page that may not be written")
			commit(t, p, some(3, 5))
			again(t, d, 7, some(3, 5), 5, "Commit behind it")
		}
	}
}

// P23.3: pages that are told of, and are none.
func TestOpenOfWrongPages(t *testing.T) {
	a := some(4, 0)
	whole := begun(t, pair{old: a})
	for i := range a {
		n := i + 1
		torn, _ := page.Torn(whole[n], 240)
		turned := []byte(whole[n])
		turned[255] ^= 0x80
		wrong := []string{
			page.Blank(), strings.Repeat("\xee", 256), torn, string(turned), whole[0], whole[1+n%4], whole[7],
			sealed(1, i, a[i].Body), sealed(1, n+1, a[i].Body), sealed(1, 0, ""), sealed(1, 1000, ""), sealed(1, n+65536, ""),
			sealed(0, n, a[i].Body), sealed(5, n, a[i].Body), sealed(6, n, a[i].Body), sealed(5, n, abortOf(4)), sealed(255, n, ""),
			sealed(2, n, long(231, 0)), sealed(2, n, long(244, 0)),
		}
		for _, s := range wrong {
			d := of(t, whole)
			d.Write(n, s)
			d.Flush()
			untouched(t, d, "Open", func() { fails(t, d, 7, api.ErrSum, "of a wrong page") })
			for count := range 5 { // a head of fewer pages does not tell of it
				d.Write(0, headOf(4, count))
				d.Flush()
				if count >= n {
					fails(t, d, 7, api.ErrSum, "of a wrong page")
				} else {
					again(t, d, 7, a[:count], 4, "with a wrong page behind")
				}
			}
		}
		for _, kind := range []int{1, 2, 3, 4} {
			for _, body := range []string{"", "x", long(230, 3)} {
				d := of(t, whole)
				d.Write(n, sealed(kind, n, body))
				d.Flush()
				again(t, d, 7, with(a, kind, i, body), 4, "with another page")
			}
		}
	}
}

// opened says it word by word as the document does, of a disk that does not die.
func opened(image []string, log int) ([]api.Page, int, api.Errno) {
	image = slices.Clone(image)
	base := len(image) - log
	head := func() (int, int, bool) {
		q, e := page.Open(image[0])
		if e != api.OK || q.Kind != 1 || q.Number != 0 || len(q.Body) != 6 {
			return 0, 0, false
		}
		tx, count := binary.BigEndian.Uint32([]byte(q.Body)), binary.BigEndian.Uint16([]byte(q.Body[4:]))
		return int(tx), int(count), tx >= 1 && int(count) <= base-1
	}
	tx, _, ok := head()
	if !ok {
		q, e := page.Open(image[base])
		x, err := entry.Decode(q.Body)
		if e != api.OK || err != api.OK {
			return nil, 0, api.ErrSum
		}
		tx = x.Tx
	}
	d, _ := disk.Of(image)
	j, _ := journal.New(d, base, log, tx)
	if l, is := j.Scan(); is {
		for _, q := range append(l[1:len(l):len(l)], l[0]) {
			s, e := page.Seal(q)
			if e != api.OK || q.Number >= len(image) {
				break
			}
			image[q.Number] = s
		}
	}
	tx, count, ok := head()
	if !ok {
		return nil, 0, api.ErrSum
	}
	var out []api.Page
	for i := range count {
		q, e := page.Open(image[i+1])
		if e != api.OK || q.Number != i+1 || q.Kind == 5 || q.Kind == 0 || len(q.Body) > 230 {
			return nil, 0, api.ErrSum
		}
		out = append(out, api.Page{Kind: q.Kind, Number: i, Body: q.Body})
	}
	return out, tx, api.OK
}

// P23.3: of many disks.
func TestOpenOfMany(t *testing.T) {
	r := rand.New(rand.NewSource(1))
	told := map[api.Errno]int{}
	for range 20000 {
		a, b := some(r.Intn(4), r.Intn(3)), some(r.Intn(4), r.Intn(3))
		tx := 2 + r.Intn(2)
		image := blank(12)
		image[0] = headOf(2, len(a))
		for i, q := range a {
			image[i+1] = sealed(q.Kind, i+1, q.Body)
		}
		c := changesOf(tx, a, b)
		if r.Intn(8) == 0 {
			c[r.Intn(len(c))] = api.Page{Kind: r.Intn(5), Number: r.Intn(13)}
		}
		for i, q := range c {
			if q.Kind == 0 {
				c[i].Body = ""
			}
		}
		steps := slices.Concat(journaled(6, tx, c), placed(c))
		steps = slices.DeleteFunc(steps, func(x step) bool { return x.n >= 12 })
		image, _ = done(image, steps, r.Intn(len(steps)+1))
		for range r.Intn(3) {
			n := r.Intn(12)
			switch r.Intn(5) {
			case 0:
				image[n] = page.Blank()
			case 1:
				image[n], _ = page.Torn(image[n], r.Intn(257))
			case 2:
				image[n] = image[r.Intn(12)]
			case 3:
				image[0] = noHeads()[r.Intn(len(noHeads()))]
			case 4:
				image[0] = headOf(1+r.Intn(4), r.Intn(7))
			}
		}
		l, next, want := opened(image, 6)
		d := of(t, image)
		p, e := pager.Open(d, 6)
		told[e]++
		if e != want || (p == nil) != (e != api.OK) {
			t.Fatalf("Open: %v, %d, want %d", p != nil, e, want)
		}
		if e == api.OK {
			shows(t, p, l, next, 5, "Open")
		}
	}
	if told[api.OK] < 5000 || told[api.ErrSum] < 3000 {
		t.Errorf("of the disks were told %v", told)
	}
}

// P23.3, R1: of bytes that are anything.
func TestOpenOfAnything(t *testing.T) {
	r := rand.New(rand.NewSource(1))
	for range 2000 {
		image := make([]string, 4+r.Intn(8))
		for i := range image {
			b := make([]byte, 256)
			r.Read(b)
			image[i] = string(b)
			if r.Intn(2) == 0 {
				image[i] = sealed(r.Intn(7), r.Intn(12), string(b[:r.Intn(20)]))
			}
		}
		for log := 2; log <= len(image)-2; log++ {
			l, tx, want := opened(image, log)
			p, e := pager.Open(of(t, image), log)
			if e != want {
				t.Fatalf("Open: %d, want %d", e, want)
			}
			if e == api.OK {
				shows(t, p, l, tx, len(image)-log-1, "Open")
			}
		}
	}
}

// R5: what is handed in is neither changed nor kept, its spare room and its texts too.
func TestPagesAreNotKept(t *testing.T) {
	d := of(t, blank(14))
	p := format(t, d, 7)
	room := some(6, 0)
	commit(t, p, room[:3])
	if !slices.Equal(room, some(6, 0)) {
		t.Errorf("Commit has changed its pages: %s", readable(room))
	}
	in := unsafe.StringData(room[1].Body)
	for _, q := range p.Pages() {
		if q.Body != "" && unsafe.StringData(q.Body) == in {
			t.Error("a text that was handed in is kept")
		}
	}
	clear(room)
	shows(t, p, some(3, 0), 2, 6, "behind a change of what was committed")
	commit(t, p, some(3, 0))
	again(t, d, 7, some(3, 0), 3, "behind a change of what was committed")
}

// R5, R6: what is told is new.
func TestPagesAreNew(t *testing.T) {
	d := of(t, blank(14))
	p := format(t, d, 7)
	commit(t, p, some(3, 0))
	for _, p := range []*pager.Pager{p, open(t, d, 7)} {
		first, second := p.Pages(), p.Pages()
		if unsafe.StringData(first[1].Body) == unsafe.StringData(second[1].Body) {
			t.Error("two answers share a text")
		}
		clear(first[:cap(first)])
		if !slices.Equal(second, some(3, 0)) {
			t.Errorf("what Pages tells is changed with what it told: %s", readable(second))
		}
		shows(t, p, some(3, 0), 2, 6, "behind a change of what it told")
	}
	_, writes, _ := d.Counts()
	commit(t, p, some(3, 0))
	if _, w, _ := d.Counts(); w-writes != 3 {
		t.Errorf("Commit of pages that are as they were: %d writes", w-writes)
	}
}

// R5: a pager does keep its disk.
func TestDiskIsKept(t *testing.T) {
	d := of(t, blank(14))
	p := format(t, d, 7)
	commit(t, p, some(1, 0))
	d.Write(1, page.Blank())
	fails(t, d, 7, api.ErrSum, "of a page that was written over")
	commit(t, p, some(1, 1))
	again(t, d, 7, some(1, 1), 3, "Commit over it")
}
