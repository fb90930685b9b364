package check_test

import (
	"encoding/binary"
	"hash/crc32"
	"math"
	"math/rand"
	"slices"
	"strings"
	"testing"

	"cadastre/api"
	"cadastre/check"
	"cadastre/disk"
	"cadastre/engine"
	"cadastre/image"
	"cadastre/key"
	"cadastre/page"
	"cadastre/pager"
)

// What a disk of these tests has.
const (
	size = 200
	log  = 100
)

func variants() []int { return []int{api.Grid, api.Excell, api.Molhpe} }

func conf(variant int, dim int, cap int) api.Config {
	return api.Config{Variant: variant, Dim: dim, Cap: cap, Pages: 300}
}

func sameRecords(a []api.Record, b []api.Record) bool {
	return slices.EqualFunc(a, b, func(a api.Record, b api.Record) bool {
		return slices.Equal(a.Key, b.Key) && a.Data == b.Data
	})
}

// some are so many records, no two of one Key, in no order.
func some(dim int, n int) []api.Record {
	var out []api.Record
	for i := range n {
		k := make(api.Key, dim)
		for at := range k {
			k[at] = uint32(i+1) * 2654435761 * uint32(2*at+1)
		}
		out = append(out, api.Record{Key: k, Data: strings.Repeat("d", i%41)})
	}
	return out
}

// risen are records in their order, as the document says it of their points.
func risen(l []api.Record) []api.Record {
	out := slices.Clone(l)
	slices.SortFunc(out, func(a api.Record, b api.Record) int { return slices.Compare(a.Key, b.Key) })
	return out
}

// pagesOf are the pages of a store that has these records.
func pagesOf(t *testing.T, c api.Config, l []api.Record) []api.Page {
	t.Helper()
	x, e := engine.New(c)
	if e != api.OK {
		t.Fatalf("engine.New(%v): %d", c, e)
	}
	if n, e := x.Load(l); e != api.OK {
		t.Fatalf("Load of %d records into %v: %d, %d", len(l), c, n, e)
	}
	out, e := image.Encode(c, x.State())
	if e != api.OK {
		t.Fatalf("image.Encode: %d", e)
	}
	return out
}

// laid is a disk on which pages were committed, one list behind the other.
func laid(t *testing.T, lists ...[]api.Page) []string {
	t.Helper()
	d, _ := disk.New(size)
	p, e := pager.Format(d, log)
	if e != api.OK {
		t.Fatalf("pager.Format: %d", e)
	}
	for _, l := range lists {
		if e := p.Commit(l); e != api.OK {
			t.Fatalf("Commit of %d pages: %d", len(l), e)
		}
	}
	return d.Image()
}

// tells expects of an image that report and those records, told twice, and that it is as it was.
func tells(t *testing.T, image []string, log int, want check.Report, records []api.Record, what string) {
	t.Helper()
	before := slices.Clone(image)
	for range 2 {
		if r, e := check.Check(image, log); e != api.OK || r != want {
			t.Errorf("Check %s: %+v, %d, want %+v", what, r, e, want)
		}
		if l, e := check.Map(image, log); e != api.OK || !sameRecords(l, records) {
			t.Errorf("Map %s: %d records, %d, want %d", what, len(l), e, len(records))
		}
	}
	if !slices.Equal(image, before) {
		t.Errorf("%s: the image is not as it was", what)
	}
}

// fails expects of both calls that error, and nothing beside it.
func fails(t *testing.T, image []string, log int, want api.Errno, what string) {
	t.Helper()
	before := slices.Clone(image)
	for range 2 {
		if r, e := check.Check(image, log); e != want || r != (check.Report{}) {
			t.Errorf("Check %s: %+v, %d, want %d", what, r, e, want)
		}
		if l, e := check.Map(image, log); e != want || len(l) != 0 {
			t.Errorf("Map %s: %d records, %d, want %d", what, len(l), e, want)
		}
	}
	if !slices.Equal(image, before) {
		t.Errorf("%s: the image is not as it was", what)
	}
}

func blank(pages int) []string { return slices.Repeat([]string{page.Blank()}, pages) }

// num are the bytes of a number, the highest one first.
func num(width int, n int) string {
	return string(binary.BigEndian.AppendUint64(nil, uint64(n))[8-width:])
}

// sealed are a page's bytes as the document says them.
func sealed(kind int, number int, body string) string {
	s := num(1, kind) + "\x00" + num(2, len(body)) + num(4, number) + body
	s += strings.Repeat("\x00", 252-len(s))
	return s + string(binary.LittleEndian.AppendUint32(nil, crc32.ChecksumIEEE([]byte(s))))
}

// P24.1, P24.2: of each variant, new and with records.
func TestStores(t *testing.T) {
	for _, v := range variants() {
		for _, dim := range []int{1, 2, 6} {
			for _, n := range []int{0, 1, 2, 3, 7, 40, 90} {
				c := conf(v, dim, 3)
				l := pagesOf(t, c, some(dim, n))
				want := check.Report{Config: c, Pages: len(l), Records: n, Tx: 2}
				tells(t, laid(t, l), log, want, risen(some(dim, n)), "of a store")
			}
		}
	}
}

// P24.1: Pages are the pager's, Tx is the transaction that is next.
func TestReport(t *testing.T) {
	for _, v := range variants() {
		c := conf(v, 2, 16)
		none, few, many := pagesOf(t, c, nil), pagesOf(t, c, some(2, 5)), pagesOf(t, c, some(2, 200))
		tells(t, laid(t, none, many, few), log, check.Report{Config: c, Pages: len(few), Records: 5, Tx: 4}, risen(some(2, 5)), "of a store that had more")
		tells(t, laid(t, few, none), log, check.Report{Config: c, Pages: len(none), Tx: 3}, nil, "of a store that is empty again")
		tells(t, laid(t, none, few, few, many, many), log, check.Report{Config: c, Pages: len(many), Records: 200, Tx: 6}, risen(some(2, 200)), "of a store that grew")
	}
}

// P24.1, P24.2: a disk that no other layer has made.
func TestByHand(t *testing.T) {
	disk := []string{
		sealed(1, 0, num(4, 77)+num(2, 3)),
		sealed(1, 1, "CADA\x03\x01\x02\x00\x09"+"\x00\x00\x00"),
		sealed(3, 2, "\x00\x01"),
		sealed(2, 3, "\x00"),
		page.Blank(), page.Blank(),
	}
	c := api.Config{Variant: api.Molhpe, Dim: 1, Cap: 2, Pages: 9}
	tells(t, disk, 2, check.Report{Config: c, Pages: 3, Tx: 77}, nil, "of a new store")
	disk[3] = sealed(2, 3, "\x02"+num(4, 7)+"\x01x"+num(4, math.MaxUint32)+"\x00")
	tells(t, disk, 2, check.Report{Config: c, Pages: 3, Records: 2, Tx: 77}, []api.Record{{Key: api.Key{7}, Data: "x"}, {Key: api.Key{math.MaxUint32}}}, "of a store of two records")
	disk[3] = sealed(2, 3, "\x02"+num(4, 8)+"\x01x"+num(4, 7)+"\x00")
	fails(t, disk, 2, api.ErrForm, "of records that do not rise")
}

// P24.1: the error of disk.Of, whatever else is wrong.
func TestNoDisk(t *testing.T) {
	whole := laid(t, pagesOf(t, conf(api.Grid, 2, 3), some(2, 40)))
	short, much := slices.Clone(whole), slices.Clone(whole)
	short[150], much[0] = whole[150][:255], whole[0]+"\x00"
	empty := slices.Clone(whole)
	empty[199] = ""
	for _, x := range [][]string{nil, {}, {""}, short, much, empty, make([]string, 200), blank(1001), append(slices.Clone(whole), blank(801)...)} {
		for _, n := range []int{log, 2, 1, 0, -1, 901, math.MinInt, math.MaxInt} {
			fails(t, x, n, api.BadRequest, "of what is no disk")
		}
	}
}

// P24.1: the errors of pager.Open.
func TestNoPager(t *testing.T) {
	whole := laid(t, pagesOf(t, conf(api.Grid, 2, 3), some(2, 40)))
	for _, n := range []int{1, 0, -1, 199, 200, 201, 901, 1000, math.MinInt, math.MaxInt} {
		fails(t, whole, n, api.BadRequest, "of no such log")
	}
	for _, pages := range []int{1, 2, 3} {
		fails(t, blank(pages), 2, api.BadRequest, "of too few pages")
	}
	for _, pages := range []int{4, 5, 200, 1000} {
		fails(t, blank(pages), 2, api.ErrSum, "of blank pages")
		fails(t, slices.Repeat([]string{strings.Repeat("\xee", 256)}, pages), 2, api.ErrSum, "of torn pages")
		fails(t, slices.Repeat(whole[1:2], pages), 2, api.ErrSum, "of pages that are all one")
	}
	fails(t, whole, 198, api.ErrSum, "of a log that begins too soon") // more pages than there is room for
	fails(t, whole[1:], log, api.ErrSum, "without page 0")
	fails(t, whole[:102], log, api.ErrSum, "without the pages")
	for i, s := range []string{page.Blank(), whole[1], sealed(1, 0, num(4, 0)+num(2, 3)), sealed(1, 0, num(4, 2)+num(2, 100))} {
		x := slices.Clone(whole)
		x[0], x[log] = s, page.Blank()
		fails(t, x, log, api.ErrSum, "without a head, and without a journal")
		x = slices.Clone(whole)
		x[1+i] = page.Blank()
		fails(t, x, log, api.ErrSum, "without a page")
		x[1+i] = sealed(5, 1+i, "")
		fails(t, x, log, api.ErrSum, "with a page of the log")
	}
}

// P24.1: pages that are no store's.
func TestNoStore(t *testing.T) {
	fails(t, laid(t), log, api.ErrForm, "of no pages")
	fails(t, laid(t, []api.Page{{Kind: 1, Body: "CADA"}}), log, api.ErrForm, "of a mark alone")
	fails(t, laid(t, []api.Page{{Kind: 2}, {Kind: 3, Number: 1, Body: "x"}}), log, api.ErrForm, "of pages that are none")
	for _, v := range variants() {
		l := pagesOf(t, conf(v, 2, 3), some(2, 40))
		last := len(l) - 1
		for i, spoil := range []func(l []api.Page) []api.Page{
			func(l []api.Page) []api.Page { return l[:last] },
			func(l []api.Page) []api.Page { return l[1:] },
			func(l []api.Page) []api.Page { return append(l, l[last]) },
			func(l []api.Page) []api.Page { l[last], l[last-1] = l[last-1], l[last]; return l },
			func(l []api.Page) []api.Page { l[last].Kind = api.PageScale; return l },
			func(l []api.Page) []api.Page { l[last].Body += "\x00"; return l },
			func(l []api.Page) []api.Page { l[0].Body = "CADB" + l[0].Body[4:]; return l },
			func(l []api.Page) []api.Page { l[0].Body = l[0].Body[:7] + "\x00\x03" + l[0].Body[9:]; return l }, // of so few Pages
		} {
			x := spoil(slices.Clone(l))
			for n := range x {
				x[n].Number = n
			}
			fails(t, laid(t, x), log, api.ErrForm, "of what is no store, "+string(rune('a'+i)))
		}
	}
}

// P24.1: a byte of a page is turned: of a page that is told of it is seen, of the head the journal makes it good, of others it counts for nothing.
func TestTurned(t *testing.T) {
	for _, v := range variants() {
		c := conf(v, 2, 3)
		l := pagesOf(t, c, some(2, 20))
		whole := laid(t, l)
		want, records := check.Report{Config: c, Pages: len(l), Records: 20, Tx: 2}, risen(some(2, 20))
		bare := append(slices.Clone(whole[:log]), blank(log)...) // without a journal
		for n := range whole {
			for _, at := range []int{0, 1, 3, 7, 8, 12, 100, 251, 252, 255} {
				turned := []byte(whole[n])
				turned[at] ^= 1 << (n % 8)
				x := slices.Clone(whole)
				x[n] = string(turned)
				switch {
				case n > 0 && n <= len(l):
					fails(t, x, log, api.ErrSum, "of a page that is turned")
				default:
					tells(t, x, log, want, records, "of a disk of which another page is turned")
				}
				if n == 0 {
					x = slices.Clone(bare)
					x[n] = string(turned)
					fails(t, x, log, api.ErrSum, "of a head that is turned, without a journal")
				}
			}
		}
		tells(t, bare, log, want, records, "without a journal")
	}
}

// P24.1, P24.3: what the journal has is made good, but not in the image.
func TestBehindACrash(t *testing.T) {
	for _, v := range variants() {
		c := conf(v, 2, 3)
		a, b := pagesOf(t, c, some(2, 10)), pagesOf(t, c, some(2, 20))
		before := laid(t, a)
		olds, news := 0, 0
		for fuse := 0; ; fuse++ {
			d, _ := disk.Of(before)
			p, _ := pager.Open(d, log)
			d.Fuse(fuse)
			e := p.Commit(b)
			d.Crash(nil, -1, 0)
			r, f := check.Check(d.Image(), log)
			if f != api.OK {
				t.Fatalf("a fuse of %d: Check: %d", fuse, f)
			}
			if r.Tx == 2 {
				olds++
				tells(t, d.Image(), log, check.Report{Config: c, Pages: len(a), Records: 10, Tx: 2}, risen(some(2, 10)), "of the old store")
			} else {
				news++
				tells(t, d.Image(), log, check.Report{Config: c, Pages: len(b), Records: 20, Tx: 3}, risen(some(2, 20)), "of the new store")
			}
			if e == api.OK {
				break
			}
		}
		if olds < 5 || news < 5 {
			t.Errorf("%d crashes left the old store, %d the new one", olds, news)
		}
	}
}

// P24.2: all records, rising, whatever order they came in.
func TestMapRises(t *testing.T) {
	for _, v := range variants() {
		for _, dim := range []int{1, 3} {
			l := some(dim, 60)
			for i := range l { // of half of them the first coordinate is one and the same
				if i%2 == 0 && dim > 1 {
					l[i].Key[0] = 1 << 31
				}
			}
			have, e := check.Map(laid(t, pagesOf(t, conf(v, dim, 4), l)), log)
			if e != api.OK || !sameRecords(have, risen(l)) {
				t.Errorf("Map of variant %d: %d records, %d", v, len(have), e)
			}
			for i := range have[1:] {
				if key.Compare(have[i].Key, have[i+1].Key) >= 0 {
					t.Errorf("Map of variant %d: %v behind %v", v, have[i+1].Key, have[i].Key)
				}
			}
		}
	}
}

// R5, R6: what is told is new, and the image is not kept.
func TestNew(t *testing.T) {
	for _, v := range variants() {
		whole := laid(t, pagesOf(t, conf(v, 2, 3), some(2, 20)))
		room := append(slices.Clone(whole), blank(1000-size)...)
		first, e := check.Map(room[:size], log)
		second, _ := check.Map(room[:size], log)
		if e != api.OK || !slices.Equal(room[:size], whole) || !slices.Equal(room[size:], blank(1000-size)) {
			t.Errorf("Map: %d, or the image or its spare room is not as it was", e)
		}
		clear(room)
		for i := range first {
			clear(first[i].Key[:cap(first[i].Key)])
		}
		clear(first[:cap(first)])
		if !sameRecords(second, risen(some(2, 20))) {
			t.Errorf("what Map tells is changed with what it told, or with the image")
		}
		third, _ := check.Map(whole, log)
		for i := range third { // no two lists of one answer share room
			_ = append(third[i].Key[:1], 7, 7)
			_ = append(third[i].Key, 7, 7)
			third[i].Key[1] = second[i].Key[1]
		}
		if !sameRecords(third, second) {
			t.Errorf("what Map tells shares room")
		}
	}
}

// R1, P6: of bytes that are anything both come to an end, and tell one and the same.
func TestAnything(t *testing.T) {
	r := rand.New(rand.NewSource(1))
	told := map[api.Errno]int{}
	for range 600 {
		v := variants()[r.Intn(3)]
		x := laid(t, pagesOf(t, conf(v, 2, 3), some(2, r.Intn(12))))
		for range 1 + r.Intn(4) {
			n := r.Intn(12)
			q, _ := page.Open(x[n])
			b := []byte(q.Body + "x")
			b[r.Intn(len(b))] ^= byte(1 << r.Intn(8))
			x[n] = sealed(q.Kind, q.Number, string(b[:len(q.Body)]))
			if r.Intn(6) == 0 {
				x[n] = x[r.Intn(len(x))]
			}
		}
		report, e := check.Check(x, log)
		l, f := check.Map(x, log)
		told[e]++
		if e != f || report.Records != len(l) || (e == api.OK) != (report.Pages > 0) {
			t.Fatalf("Check: %+v, %d; Map: %d records, %d", report, e, len(l), f)
		}
	}
	for range 300 {
		x := make([]string, 1+r.Intn(9))
		for i := range x {
			b := make([]byte, 256)
			r.Read(b)
			x[i] = string(b)
			if r.Intn(2) == 0 {
				x[i] = sealed(r.Intn(6), i, string(b[:r.Intn(30)]))
			}
		}
		_, e := check.Check(x, r.Intn(10))
		told[e]++
	}
	if told[api.OK] < 20 || told[api.ErrForm] < 20 || told[api.ErrSum] < 20 || told[api.BadRequest] < 20 {
		t.Errorf("told: %v", told)
	}
}
