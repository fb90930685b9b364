package journal_test

import (
	"encoding/binary"
	"hash/crc32"
	"math"
	"math/rand"
	"slices"
	"strings"
	"testing"

	"cadastre/api"
	"cadastre/disk"
	"cadastre/entry"
	"cadastre/journal"
	"cadastre/page"
)

const mostTx = 1<<32 - 1

// long is a text of so many bytes, no two behind each other alike.
func long(size int) string {
	b := make([]byte, size)
	for i := range b {
		b[i] = byte(i*7 + i>>8 + 1)
	}
	return string(b)
}

// some are so many pages that may be staged, no two of them alike.
func some(n int) []api.Page {
	out := make([]api.Page, n)
	for i := range out {
		out[i] = api.Page{Kind: i % 5, Number: 999 - i%1000}
		if i%5 != api.PageFree {
			out[i].Body = long(i * 37 % 231)
		}
	}
	return out
}

// unstaged are pages that may not be.
func unstaged() []api.Page {
	return []api.Page{
		{Kind: -1}, {Kind: 5}, {Kind: 5, Number: 7, Body: "body"}, {Kind: 6}, {Kind: math.MaxInt}, {Kind: 256},
		{Kind: 1, Number: -1}, {Kind: 1, Number: 1000}, {Kind: 1, Number: math.MinInt}, {Number: 1000},
		{Kind: 1, Body: long(231)}, {Kind: 4, Body: long(244)}, {Kind: 1, Body: long(5000)}, {Body: "x"}, {Body: "\x00"},
	}
}

// create is a disk each of whose pages has other bytes, so that one is seen that was touched.
func create(t *testing.T, pages int) *disk.Disk {
	t.Helper()
	image := make([]string, pages)
	for i := range image {
		image[i] = strings.Repeat(string([]byte{byte(i)}), 255) + "\x77"
	}
	return of(t, image)
}

func of(t *testing.T, image []string) *disk.Disk {
	t.Helper()
	d, e := disk.Of(image)
	if e != api.OK {
		t.Fatalf("disk.Of %d pages: %d", len(image), e)
	}
	return d
}

func on(t *testing.T, d *disk.Disk, base int, size int, tx int) *journal.Journal {
	t.Helper()
	j, e := journal.New(d, base, size, tx)
	if j == nil || e != api.OK {
		t.Fatalf("New(%d, %d, %d): %v, %d", base, size, tx, j, e)
	}
	return j
}

func commit(t *testing.T, j *journal.Journal, l []api.Page) {
	t.Helper()
	if e := j.Commit(l); e != api.OK {
		t.Fatalf("Commit of %d pages: %d", len(l), e)
	}
}

func next(t *testing.T, j *journal.Journal) {
	t.Helper()
	if e := j.Next(); e != api.OK {
		t.Fatalf("Next of %d: %d", j.Tx(), e)
	}
}

// scans expects these pages.
func scans(t *testing.T, j *journal.Journal, want []api.Page, what string) {
	t.Helper()
	if l, ok := j.Scan(); !ok || !slices.Equal(l, want) {
		t.Errorf("Scan %s: %d pages, %v, want %d", what, len(l), ok, len(want))
	}
}

// nothing expects of Scan that there is nothing.
func nothing(t *testing.T, j *journal.Journal, what string) {
	t.Helper()
	if l, ok := j.Scan(); ok || len(l) != 0 {
		t.Errorf("Scan %s: %d pages, %v, want nothing", what, len(l), ok)
	}
}

// logged is how an entry stands on a page, whatever Kind and Number that has.
func logged(t *testing.T, kind int, number int, body string) string {
	t.Helper()
	s, e := page.Seal(api.Page{Kind: kind, Number: number, Body: body})
	if e != api.OK {
		t.Fatalf("page.Seal(%d, %d): %d", kind, number, e)
	}
	return s
}

func encoded(t *testing.T, e entry.Entry) string {
	t.Helper()
	s, err := entry.Encode(e)
	if err != api.OK {
		t.Fatalf("entry.Encode(%+v): %d", e, err)
	}
	return s
}

// entries are those of a Commit of l.
func entries(tx int, l []api.Page) []entry.Entry {
	var out []entry.Entry
	for i, p := range l {
		out = append(out, entry.Entry{Kind: entry.Stage, Tx: tx, Index: i, Page: p})
	}
	return append(out, entry.Entry{Kind: entry.Commit, Tx: tx, Index: len(l), Count: len(l), Sum: entry.Sum(l)})
}

// laid is an image with entries on its pages from base on.
func laid(t *testing.T, image []string, base int, l []entry.Entry) []string {
	t.Helper()
	out := slices.Clone(image)
	for i, e := range l {
		out[base+i] = logged(t, api.PageLog, base+i, encoded(t, e))
	}
	return out
}

// holds expects of a disk that image, and nothing that waits.
func holds(t *testing.T, d *disk.Disk, want []string, what string) {
	t.Helper()
	have := d.Image()
	for i := range want {
		if have[i] != want[i] {
			t.Errorf("%s: page %d is\n%x, want\n%x", what, i, have[i], want[i])
		}
	}
	if w := d.Waits(); len(w) != 0 {
		t.Errorf("%s: %v waits", what, w)
	}
}

// untouched expects that a call neither wrote nor flushed.
func untouched(t *testing.T, d *disk.Disk, what string, call func()) {
	t.Helper()
	image, waits := d.Image(), d.Waits()
	_, writes, flushes := d.Counts()
	call()
	_, w, f := d.Counts()
	if w != writes || f != flushes || !slices.Equal(d.Image(), image) || !slices.Equal(d.Waits(), waits) {
		t.Errorf("%s: %d writes, %d flushes", what, w-writes, f-flushes)
	}
}

// P7.1
func TestNew(t *testing.T) {
	for _, x := range []struct{ pages, base, size, tx int }{
		{2, 0, 2, 1}, {3, 0, 2, 1}, {3, 1, 2, 2}, {3, 0, 3, 1}, {10, 2, 5, 7}, {10, 8, 2, mostTx}, {10, 3, 7, mostTx - 1},
		{999, 0, 999, 1}, {1000, 0, 999, 1}, {1000, 1, 999, 1 << 31}, {1000, 998, 2, 5}, {1000, 0, 2, mostTx},
	} {
		d := create(t, x.pages)
		untouched(t, d, "New", func() {
			j := on(t, d, x.base, x.size, x.tx)
			if j.Tx() != x.tx || j.Room() != x.size-1 {
				t.Errorf("New(%d, %d, %d): Tx %d, Room %d", x.base, x.size, x.tx, j.Tx(), j.Room())
			}
			nothing(t, j, "of a new journal")
		})
	}
}

// P7.1
func TestNewRefuses(t *testing.T) {
	ten, most := create(t, 10), create(t, 1000)
	for _, x := range []struct {
		d              *disk.Disk
		base, size, tx int
	}{
		{nil, 0, 2, 1}, {nil, 0, 0, 0}, {new(disk.Disk), 0, 2, 1}, {create(t, 1), 0, 2, 1},
		{ten, 0, 1, 1}, {ten, 0, 0, 1}, {ten, 0, -1, 1}, {ten, 5, -2, 1}, {ten, 0, math.MinInt, 1}, {ten, 0, math.MaxInt, 1}, {ten, 0, 11, 1},
		{most, 0, 1000, 1}, {most, 0, 1001, 1}, {most, 2, 999, 1},
		{ten, -1, 2, 1}, {ten, -1, 11, 1}, {ten, math.MinInt, 2, 1},
		{ten, 9, 2, 1}, {ten, 10, 2, 1}, {ten, 6, 5, 1}, {ten, 11, 2, 1}, {ten, math.MaxInt, 2, 1}, {ten, math.MaxInt - 1, 2, 1}, {ten, math.MaxInt, 999, 1},
		{ten, 2, 5, 0}, {ten, 2, 5, -1}, {ten, 2, 5, math.MinInt}, {ten, 2, 5, mostTx + 1}, {ten, 2, 5, mostTx + 2}, {ten, 2, 5, math.MaxInt},
	} {
		if j, e := journal.New(x.d, x.base, x.size, x.tx); j != nil || e != api.BadRequest {
			t.Errorf("New of a disk of %d pages, %d, %d, %d: %v, %d", x.d.Size(), x.base, x.size, x.tx, j, e)
		}
	}
}

// P7.1, R1: of nil, and of one that New did not make.
func TestNil(t *testing.T) {
	for _, j := range []*journal.Journal{nil, new(journal.Journal)} {
		if e := j.Commit(some(1)); e != api.BadRequest {
			t.Errorf("Commit: %d", e)
		}
		if e := j.Abort(); e != api.BadRequest {
			t.Errorf("Abort: %d", e)
		}
		if e := j.Next(); e != api.BadRequest {
			t.Errorf("Next: %d", e)
		}
		nothing(t, j, "of nil")
		if j.Tx() != 0 || j.Room() != 0 {
			t.Errorf("Tx %d, Room %d", j.Tx(), j.Room())
		}
	}
}

// P7.2, P7.3: just its own pages are written.
func TestCommit(t *testing.T) {
	for _, x := range []struct{ pages, base, size, tx, many int }{
		{2, 0, 2, 1, 1}, {10, 2, 5, 7, 1}, {10, 2, 5, 7, 3}, {10, 2, 5, mostTx, 4}, {10, 5, 5, 258, 4}, {10, 0, 10, 1, 9}, {1000, 1, 999, 1 << 31, 998}, {1000, 998, 2, 1, 1},
	} {
		d := create(t, x.pages)
		want := laid(t, d.Image(), x.base, entries(x.tx, some(x.many)))
		j := on(t, d, x.base, x.size, x.tx)
		commit(t, j, some(x.many))
		holds(t, d, want, "Commit")
		if _, w, f := d.Counts(); w != x.many+1 || f != 2 {
			t.Errorf("Commit of %d pages: %d writes, %d flushes", x.many, w, f)
		}
		untouched(t, d, "Scan", func() { scans(t, j, some(x.many), "behind a Commit") })
		if j.Tx() != x.tx || j.Room() != x.size-1 {
			t.Errorf("behind a Commit: Tx %d, Room %d", j.Tx(), j.Room())
		}
		scans(t, on(t, of(t, d.Image()), x.base, x.size, x.tx), some(x.many), "of a disk that is there again")
	}
}

// byHand is a page as the document says it, byte for byte.
func byHand(number byte, body string) string {
	s := "\x05\x00\x00" + string([]byte{byte(len(body))}) + "\x00\x00\x00" + string([]byte{number}) + body
	s += strings.Repeat("\x00", 252-len(s))
	return s + string(binary.LittleEndian.AppendUint32(nil, crc32.ChecksumIEEE([]byte(s))))
}

// P7.2: byte for byte, so that the test's own way of laying is seen to be right.
func TestCommitByHand(t *testing.T) {
	d := create(t, 10)
	want := d.Image()
	want[6] = byHand(6, "\x01\x00\x00\x01\x02\x00\x00\x02\x00\x07ab")
	want[7] = byHand(7, "\x01\x00\x00\x01\x02\x00\x01\x00\x03\xe7")
	sum := crc32.ChecksumIEEE([]byte("\x01\x00\x00\x00\x01\x00\x00\x02\x00\x07ab" + "\x01\x00\x00\x00\x01\x00\x01\x00\x03\xe7"))
	want[8] = byHand(8, "\x02\x00\x00\x01\x02\x00\x02\x00\x02"+string(binary.BigEndian.AppendUint32(nil, sum)))
	j := on(t, d, 6, 4, 258)
	commit(t, j, []api.Page{{Kind: 2, Number: 7, Body: "ab"}, {Number: 999}})
	holds(t, d, want, "Commit")
	want[6] = byHand(6, "\x03\x00\x00\x01\x02\x00\x00")
	if e := j.Abort(); e != api.OK {
		t.Errorf("Abort: %d", e)
	}
	holds(t, d, want, "Abort")
}

// P7.2: its steps, one behind the other; what a disk does that has died is nothing.
func TestCommitSteps(t *testing.T) {
	l := some(3)
	before := create(t, 8).Image()
	all := entries(9, l)
	for _, x := range []struct {
		steps int
		there int
		waits []int
	}{
		{0, 0, nil}, {1, 0, []int{2}}, {2, 0, []int{2, 3}}, {3, 0, []int{2, 3, 4}}, {4, 3, nil}, {5, 3, []int{5}}, {6, 4, nil}, {7, 4, nil}, {-1, 4, nil},
	} {
		d := of(t, before)
		d.Fuse(x.steps)
		commit(t, on(t, d, 2, 5, 9), l)
		if !slices.Equal(d.Image(), laid(t, before, 2, all[:x.there])) || !slices.Equal(d.Waits(), x.waits) {
			t.Errorf("behind %d steps: %v waits", x.steps, d.Waits())
		}
		for i, n := range x.waits {
			if s, _ := d.Read(n); s != logged(t, api.PageLog, n, encoded(t, all[n-2])) {
				t.Errorf("behind %d steps: the write %d that waits is %x", x.steps, i, s)
			}
		}
	}
}

// P7.2: writes that waited ahead of it come to the disk with its own.
func TestCommitFlushesAll(t *testing.T) {
	d := create(t, 8)
	want := laid(t, d.Image(), 2, entries(9, some(1)))
	want[7] = page.Blank()
	d.Write(7, page.Blank())
	commit(t, on(t, d, 2, 5, 9), some(1))
	holds(t, d, want, "Commit")
}

// P7.2, R3: what is refused changes nothing.
func TestCommitRefuses(t *testing.T) {
	d := create(t, 10)
	j := on(t, d, 2, 5, 3)
	commit(t, j, some(4))
	refuse := func(l []api.Page, want api.Errno) {
		t.Helper()
		untouched(t, d, "Commit", func() {
			if e := j.Commit(l); e != want {
				t.Errorf("Commit of %d pages: %d, want %d", len(l), e, want)
			}
		})
		scans(t, j, some(4), "behind a Commit that was refused")
	}
	refuse(nil, api.BadRequest)
	refuse([]api.Page{}, api.BadRequest)
	for _, p := range unstaged() {
		for at := range 4 {
			refuse(slices.Insert(some(3), at, p), api.BadRequest)
		}
	}
	for _, many := range []int{5, 6, 998, 999, 1000, 1001, 1002, 3000} {
		refuse(some(many), api.JournalFull)
		for _, at := range []int{0, many / 2, many - 1} { // R2
			l := some(many)
			l[at] = api.Page{Kind: 5}
			refuse(l, api.BadRequest)
		}
	}
	if j.Tx() != 3 {
		t.Errorf("Tx %d", j.Tx())
	}
}

// P7.1, P7.2: as many as Room are taken, of any size.
func TestRoom(t *testing.T) {
	for _, size := range []int{2, 3, 4, 100, 999} {
		d := create(t, 1000)
		j := on(t, d, 1, size, 1)
		if e := j.Commit(some(j.Room() + 1)); e != api.JournalFull {
			t.Errorf("size %d: Commit of %d pages: %d", size, j.Room()+1, e)
		}
		nothing(t, j, "of a journal that was full")
		commit(t, j, some(j.Room()))
		scans(t, j, some(size-1), "of a journal that is full")
	}
}

// P7.2
func TestAbort(t *testing.T) {
	for _, x := range []struct{ base, size, tx int }{{0, 2, 1}, {2, 5, mostTx}, {8, 2, 258}} {
		d := create(t, 10)
		want := laid(t, d.Image(), x.base, []entry.Entry{{Kind: entry.Abort, Tx: x.tx}})
		j := on(t, d, x.base, x.size, x.tx)
		if e := j.Abort(); e != api.OK {
			t.Errorf("Abort: %d", e)
		}
		holds(t, d, want, "Abort")
		if _, w, f := d.Counts(); w != 1 || f != 1 {
			t.Errorf("Abort: %d writes, %d flushes", w, f)
		}
		nothing(t, j, "behind an Abort")
		if j.Tx() != x.tx {
			t.Errorf("behind an Abort: Tx %d", j.Tx())
		}
		commit(t, j, some(1))
		scans(t, j, some(1), "behind an Abort and a Commit")
		if e := j.Abort(); e != api.OK {
			t.Errorf("Abort again: %d", e)
		}
		nothing(t, j, "behind a Commit and an Abort")
	}
}

// P7.2: its two steps.
func TestAbortSteps(t *testing.T) {
	before := create(t, 4).Image()
	after := laid(t, before, 1, []entry.Entry{{Kind: entry.Abort, Tx: 6}})
	for steps, want := range [][]string{before, before, after, after} {
		waits := 0
		if steps == 1 {
			waits = 1
		}
		d := of(t, before)
		d.Fuse(steps)
		if e := on(t, d, 1, 2, 6).Abort(); e != api.OK {
			t.Errorf("Abort of %d steps: %d", steps, e)
		}
		if !slices.Equal(d.Image(), want) || len(d.Waits()) != waits {
			t.Errorf("Abort of %d steps: %v waits", steps, d.Waits())
		}
	}
}

// P7.3: each of these, in the place of one of a Commit's pages, makes it none.
func TestScanOfWhatIsNotWhole(t *testing.T) {
	const base, tx = 3, 258
	l := some(4)
	all := entries(tx, l)
	before := laid(t, create(t, 10).Image(), base, all)
	scans(t, on(t, of(t, before), base, 6, tx), l, "of what was laid")
	for at, e := range all {
		n, s := base+at, encoded(t, e)
		wrong := []string{
			page.Blank(), strings.Repeat("\xee", 256), strings.Repeat("\x05", 256), before[0], before[9],
			before[base+(at+1)%5], before[base+(at+4)%5],
			logged(t, api.PageLog, n, ""), logged(t, api.PageLog, n, s[:len(s)-1]+"\x00\x00"), logged(t, api.PageLog, n, s[:6]), logged(t, api.PageLog, n, s[:9]),
			logged(t, api.PageLog, n, "\x00"+s[1:]), logged(t, api.PageLog, n, "\x04"+s[1:]),
			logged(t, api.PageLog, at, s), logged(t, api.PageLog, n-1, s), logged(t, api.PageLog, n+1, s), logged(t, api.PageLog, 999, s),
		}
		for _, kind := range []int{1, 2, 3, 4} {
			wrong = append(wrong, logged(t, kind, n, s))
		}
		for _, x := range others(e) {
			wrong = append(wrong, logged(t, api.PageLog, n, encoded(t, x)))
		}
		for cut := 0; cut < 256; cut += 15 {
			torn, _ := page.Torn(before[n], cut)
			wrong = append(wrong, torn)
		}
		for i, s := range wrong {
			image := slices.Clone(before)
			image[n] = s
			d := of(t, image)
			untouched(t, d, "Scan", func() {
				if got, ok := on(t, d, base, 6, tx).Scan(); ok || len(got) != 0 {
					t.Errorf("with wrong page %d at place %d: %d pages, %v", i, at, len(got), ok)
				}
			})
		}
	}
}

// others are entries that differ from that one in a single thing, and may be.
func others(e entry.Entry) []entry.Entry {
	var out []entry.Entry
	with := func(change func(x *entry.Entry)) {
		x := e
		change(&x)
		out = append(out, x)
	}
	for _, tx := range []int{1, e.Tx - 1, e.Tx + 1, e.Tx + 256, mostTx} {
		with(func(x *entry.Entry) { x.Tx = tx })
	}
	out = append(out, entry.Entry{Kind: entry.Abort, Tx: e.Tx, Index: e.Index})
	if e.Kind == entry.Commit {
		for _, sum := range []uint32{0, e.Sum + 1, e.Sum ^ 1<<31, ^e.Sum} {
			with(func(x *entry.Entry) { x.Sum = sum })
		}
		for _, count := range []int{1, e.Count - 1, e.Count + 1, 999} {
			with(func(x *entry.Entry) { x.Index, x.Count = count, count })
		}
		return append(out, entry.Entry{Kind: entry.Stage, Tx: e.Tx, Index: e.Index, Page: api.Page{Kind: 1}})
	}
	for _, index := range []int{e.Index + 1, e.Index + 3, 999} {
		with(func(x *entry.Entry) { x.Index = index })
	}
	with(func(x *entry.Entry) { x.Page.Number = 5 })
	with(func(x *entry.Entry) { x.Page = api.Page{Kind: 4, Number: e.Page.Number, Body: e.Page.Body + "x"} })
	return append(out, entry.Entry{Kind: entry.Commit, Tx: e.Tx, Index: e.Index + 1, Count: e.Index + 1})
}

// P7.3: pages that are staged to the journal's end have no Commit, whatever stands behind that.
func TestScanEnds(t *testing.T) {
	all := entries(5, some(4))
	image := laid(t, create(t, 10).Image(), 2, all)
	scans(t, on(t, of(t, image), 2, 5, 5), some(4), "of a journal that is full")
	for size := 2; size <= 4; size++ {
		nothing(t, on(t, of(t, image), 2, size, 5), "of a journal that ends ahead of the Commit")
	}
	image = laid(t, image[:6], 2, all[:4])
	nothing(t, on(t, of(t, image), 2, 4, 5), "of pages staged to the disk's end")
}

// P7.3: there is at least one page, and a Commit at its place alone.
func TestScanOfCommitAlone(t *testing.T) {
	image := create(t, 10).Image()
	for count := 1; count <= 4; count++ {
		alone := entry.Entry{Kind: entry.Commit, Tx: 5, Index: count, Count: count, Sum: entry.Sum(nil)}
		nothing(t, on(t, of(t, laid(t, image, 2, []entry.Entry{alone})), 2, 5, 5), "of a Commit at place 0")
		staged := entries(5, some(count))
		nothing(t, on(t, of(t, laid(t, image, 2, staged[1:])), 2, 5, 5), "of pages without the first one")
		nothing(t, on(t, of(t, laid(t, image, 2, staged[:count])), 2, 5, 5), "of pages without a Commit")
		nothing(t, on(t, of(t, laid(t, image, 3, staged)), 2, 6, 5), "of pages one place behind")
	}
	zero := "\x02\x00\x00\x00\x05\x00\x00\x00\x00\x00\x00\x00\x00"
	image[2] = logged(t, api.PageLog, 2, zero)
	nothing(t, on(t, of(t, image), 2, 5, 5), "of a Commit of no pages")
}

// P7.3: what stands behind the Commit is not asked.
func TestScanStopsAtTheCommit(t *testing.T) {
	image := laid(t, create(t, 10).Image(), 0, entries(5, some(9)))
	for many := 1; many <= 8; many++ {
		d := of(t, laid(t, image, 0, entries(5, some(many))))
		j := on(t, d, 0, 10, 5)
		scans(t, j, some(many), "ahead of other pages")
		if r, _, _ := d.Counts(); r != many+1 {
			t.Errorf("Scan of %d pages: %d reads", many, r)
		}
	}
}

// P7.3: no page is read behind one that ends the scan.
func TestScanReads(t *testing.T) {
	all := entries(5, some(6))
	image := laid(t, create(t, 10).Image(), 2, all)
	for at := range all {
		for _, s := range []string{
			page.Blank(), image[0], strings.Repeat("\xee", 256),
			logged(t, api.PageLog, 2+at, encoded(t, entry.Entry{Kind: entry.Abort, Tx: 5, Index: at})),
			logged(t, api.PageLog, 2+at, encoded(t, entry.Entry{Kind: entry.Stage, Tx: 4, Index: at})),
			logged(t, api.PageLog, 2+at, encoded(t, entry.Entry{Kind: entry.Commit, Tx: 5, Index: at + 1, Count: at + 1})),
		} {
			d := of(t, image)
			d.Write(2+at, s)
			nothing(t, on(t, d, 2, 8, 5), "of a page that is not whole")
			if r, _, _ := d.Counts(); r != at+1 {
				t.Errorf("Scan of %d pages, %x behind them: %d reads", at, s, r)
			}
		}
	}
}

// P7.3: what was written counts, though it waits.
func TestScanOfWhatWaits(t *testing.T) {
	d := create(t, 8)
	d.Fuse(5)
	j := on(t, d, 2, 5, 9)
	commit(t, j, some(3))
	scans(t, j, some(3), "of a Commit that waits")
	d.Crash(nil, -1, 0)
	nothing(t, j, "of a Commit that was lost")
}

// scanned says it word by word as the document does.
func scanned(image []string, base int, size int, tx int) ([]api.Page, bool) {
	at := func(i int) (entry.Entry, bool) {
		if i >= size {
			return entry.Entry{}, false
		}
		p, e := page.Open(image[base+i])
		x, err := entry.Decode(p.Body)
		return x, e == api.OK && err == api.OK && p.Kind == api.PageLog && p.Number == base+i && x.Tx == tx && x.Index == i
	}
	var l []api.Page
	for {
		x, ok := at(len(l))
		if !ok || x.Kind != entry.Stage {
			break
		}
		l = append(l, x.Page)
	}
	x, ok := at(len(l))
	if ok && len(l) > 0 && x.Kind == entry.Commit && x.Count == len(l) && x.Sum == entry.Sum(l) {
		return l, true
	}
	return nil, false
}

// pool is what may stand on the disk's page n, most often a page of a Commit, from page 0 or from page 1 on.
func pool(t *testing.T, r *rand.Rand, n int, base int, many int) string {
	t.Helper()
	tx, kind, number := 2, api.PageLog, n
	switch r.Intn(60) {
	case 0:
		return page.Blank()
	case 1:
		return strings.Repeat("\xee", 256)
	case 2:
		kind = api.PageBucket
	case 3:
		number++
	case 4:
		tx = 3
	}
	all := entries(tx, some(many))
	return logged(t, kind, number, encoded(t, all[max(0, min(n-base, many))]))
}

// P7.3: of many disks.
func TestScanOfMany(t *testing.T) {
	r := rand.New(rand.NewSource(1))
	found := 0
	for range 10000 {
		image := make([]string, 8)
		many, from := 1+r.Intn(4), r.Intn(2)
		for n := range image {
			if r.Intn(40) == 0 {
				many = 1 + r.Intn(4)
			}
			image[n] = pool(t, r, n, from, many)
		}
		base, size, tx := r.Intn(2), 2+r.Intn(6), 2+r.Intn(15)/14
		want, ok := scanned(image, base, size, tx)
		l, is := on(t, of(t, image), base, size, tx).Scan()
		if is != ok || !slices.Equal(l, want) {
			t.Fatalf("Scan from %d on, %d pages, of transaction %d: %v, %v, want %v, %v", base, size, tx, l, is, want, ok)
		}
		if ok {
			found++
		}
	}
	if found < 500 || found > 9500 {
		t.Errorf("%d of the disks had a Commit", found)
	}
}

// P7.4
func TestNext(t *testing.T) {
	d := create(t, 10)
	j := on(t, d, 2, 5, 1)
	commit(t, j, some(2))
	untouched(t, d, "Next", func() {
		for tx := 2; tx < 300; tx++ {
			next(t, j)
			if j.Tx() != tx || j.Room() != 4 {
				t.Fatalf("Next: Tx %d, Room %d, want %d", j.Tx(), j.Room(), tx)
			}
		}
	})
	nothing(t, j, "behind Next")
	scans(t, on(t, d, 2, 5, 1), some(2), "of the transaction that was")
}

// P7.4
func TestNextOfTheLast(t *testing.T) {
	d := create(t, 10)
	j := on(t, d, 2, 5, mostTx-1)
	next(t, j)
	for range 3 {
		untouched(t, d, "Next", func() {
			if e := j.Next(); e != api.BadRequest || j.Tx() != mostTx {
				t.Errorf("Next of the last one: %d, Tx %d", e, j.Tx())
			}
		})
	}
	commit(t, j, some(2))
	j.Next()
	scans(t, j, some(2), "of the last transaction")
}

// P7.5
func TestCommitScanNext(t *testing.T) {
	d := create(t, 10)
	j := on(t, d, 2, 7, 1)
	for i := range 200 {
		l := some(i + 6)[i : i+1+i%6]
		nothing(t, j, "ahead of a Commit")
		commit(t, j, l)
		scans(t, j, l, "behind a Commit")
		scans(t, j, l, "again")
		if i%3 == 0 { // once more in the same transaction: the later one counts
			l = some(6)[i%6:]
			commit(t, j, l)
			scans(t, j, l, "behind a second Commit")
		}
		scans(t, on(t, of(t, d.Image()), 2, 7, i+1), l, "of a disk that is there again")
		next(t, j)
	}
}

// P7.5: pages of other transactions count for nothing, where they stand in the way and where they go on.
func TestOtherTransactions(t *testing.T) {
	for _, many := range []int{1, 2, 3, 4, 5} {
		d := create(t, 10)
		j := on(t, d, 2, 6, 1)
		commit(t, j, some(5))
		next(t, j)
		commit(t, j, some(many))
		scans(t, j, some(many), "over pages of another transaction")
		nothing(t, on(t, d, 2, 6, 1), "of pages that were written over")
		nothing(t, on(t, d, 2, 6, 3), "of the transaction that is next")
		nothing(t, on(t, d, 3, 6, 2), "of a journal that begins elsewhere")
	}
	d := create(t, 10)
	commit(t, on(t, d, 2, 4, 1), some(3))
	commit(t, on(t, d, 6, 4, 1), some(2))
	scans(t, on(t, d, 2, 4, 1), some(3), "beside another journal")
	scans(t, on(t, d, 6, 4, 1), some(2), "beside another journal")
}

// crashes calls of each crash that there may be of so many writes that wait.
func crashes(waits int, call func(kept []int, torn int, at int)) {
	for set := range 1 << waits {
		var kept []int
		for i := range waits {
			if set>>i&1 == 1 {
				kept = append(kept, i)
			}
		}
		call(kept, -1, 0)
		for torn := range waits {
			if set>>torn&1 == 0 {
				for _, at := range []int{0, 1, 8, 15, 18, 25, 100, 240, 252, 255, 256} {
					call(kept, torn, at)
				}
			}
		}
	}
}

// died has committed l, but the disk died behind so many steps.
func died(t *testing.T, image []string, tx int, l []api.Page, steps int) *disk.Disk {
	t.Helper()
	d := of(t, image)
	d.Fuse(steps)
	commit(t, on(t, d, 2, 6, tx), l)
	return d
}

// P7.5: of each crash that there may be; the journal has pages of another transaction.
func TestCrash(t *testing.T) {
	d := create(t, 10)
	commit(t, on(t, d, 2, 6, 6), some(5))
	before := d.Image()
	l := some(9)[6:]
	for steps := range 8 {
		crashes(len(died(t, before, 7, l, steps).Waits()), func(kept []int, torn int, at int) {
			d := died(t, before, 7, l, steps)
			if e := d.Crash(kept, torn, at); e != api.OK {
				t.Fatalf("Crash(%v, %d, %d): %d", kept, torn, at, e)
			}
			there := steps >= 6 || steps == 5 && (len(kept) == 1 || torn == 0 && at == 256)
			got, ok := on(t, d, 2, 6, 7).Scan()
			if ok != there || ok && !slices.Equal(got, l) || !ok && len(got) != 0 {
				t.Fatalf("behind %d steps and Crash(%v, %d, %d): %d pages, %v", steps, kept, torn, at, len(got), ok)
			}
			old, ok := on(t, d, 2, 6, 6).Scan() // pages of both are there by now: all of the old one, or nothing
			if ok && !slices.Equal(old, some(5)) || !ok && len(old) != 0 {
				t.Fatalf("behind %d steps and Crash(%v, %d, %d): %d old pages, %v", steps, kept, torn, at, len(old), ok)
			}
		})
	}
}

// P7.5: of a second Commit in the same transaction, too: the first one, the second one, or nothing.
func TestCrashOfASecondCommit(t *testing.T) {
	for first := 1; first <= 5; first++ {
		d := create(t, 10)
		commit(t, on(t, d, 2, 6, 7), some(first))
		before := d.Image()
		l := some(9)[6:]
		for steps := range 8 {
			crashes(len(died(t, before, 7, l, steps).Waits()), func(kept []int, torn int, at int) {
				d := died(t, before, 7, l, steps)
				d.Crash(kept, torn, at)
				got, ok := on(t, d, 2, 6, 7).Scan()
				if ok && !slices.Equal(got, l) && !slices.Equal(got, some(first)) || !ok && (steps >= 6 || len(got) != 0) {
					t.Fatalf("behind %d steps and Crash(%v, %d, %d): %d pages, %v", steps, kept, torn, at, len(got), ok)
				}
			})
		}
	}
}

// R5: what is handed in is neither changed nor kept, its spare room too.
func TestPagesAreNotKept(t *testing.T) {
	d := create(t, 10)
	j := on(t, d, 2, 6, 1)
	room := some(6)
	l := room[:3]
	commit(t, j, l)
	if !slices.Equal(room, some(6)) {
		t.Errorf("Commit has changed its pages: %v", room)
	}
	clear(room)
	scans(t, j, some(3), "behind a change of what was committed")
}

// R5, R6
func TestScanIsNew(t *testing.T) {
	d := create(t, 10)
	j := on(t, d, 2, 6, 1)
	commit(t, j, some(3))
	first, _ := j.Scan()
	second, _ := j.Scan()
	clear(first[:cap(first)])
	if !slices.Equal(second, some(3)) {
		t.Errorf("what Scan tells is changed with what it told: %v", second)
	}
	scans(t, j, some(3), "behind a change of what it told")
}

// R5: a journal does keep its disk.
func TestDiskIsKept(t *testing.T) {
	d := create(t, 10)
	j := on(t, d, 2, 6, 1)
	commit(t, on(t, d, 2, 6, 1), some(3))
	scans(t, j, some(3), "of what another journal committed")
	d.Write(3, page.Blank())
	nothing(t, j, "of a page that was written over")
}
