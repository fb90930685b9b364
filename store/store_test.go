package store_test

import (
	"math"
	"slices"
	"strings"
	"testing"

	"cadastre/api"
	"cadastre/disk"
	"cadastre/engine"
	"cadastre/image"
	"cadastre/page"
	"cadastre/pager"
	"cadastre/request"
	"cadastre/store"
)

// newLaid is how many pages are laid of a new store: of its config, of its directory, of its bucket, and of a grid file's bounds.
func newLaid(variant int) int {
	if variant == api.Grid {
		return 4
	}
	return 3
}

// newPages is how many pages a new store has; of chains none of a directory is counted.
func newPages(variant int) int {
	if variant == api.Molhpe {
		return 2
	}
	return newLaid(variant)
}

// laid is a disk with the pages of a state, made without a store.
func laid(t *testing.T, c api.Config, size int, log int, l []api.Record) *disk.Disk {
	t.Helper()
	d, _ := disk.New(size)
	p, e := pager.Format(d, log)
	if e != api.OK {
		t.Fatalf("pager.Format: %d", e)
	}
	for _, records := range [][]api.Record{nil, l} {
		x, _ := engine.New(c)
		if n, e := x.Load(records); e != api.OK {
			t.Fatalf("engine's Load: %d, %d", n, e)
		}
		pages, e := image.Encode(c, x.State())
		if e != api.OK {
			t.Fatalf("image.Encode: %d", e)
		}
		if e := p.Commit(pages); e != api.OK {
			t.Fatalf("pager's Commit of %d pages: %d", len(pages), e)
		}
		if len(l) == 0 {
			break
		}
	}
	return d
}

// shows expects of a store these records, as many pages, so much read, and that its disk is whole.
func shows(t *testing.T, s *store.Store, log int, l []api.Record, what string) {
	t.Helper()
	if a := does(t, s, everything()); !sameRecords(a.Records, l) {
		t.Fatalf("%s: %v, want %v", what, a.Records, l)
	}
	whole(t, s.Disk(), log, s.Config(), plainOf(l), what)
}

// P26.1: byte for byte what its words tell.
func TestCreate(t *testing.T) {
	for _, v := range variants() {
		for dim := 1; dim <= 6; dim++ {
			for _, x := range []struct{ cap, pages, log int }{{2, 4, 6}, {2, 400, 400}, {16, 400, 7}, {3, 5, 100}, {16, 399, 399}} {
				c := conf(v, dim, x.cap, x.pages)
				s := create(t, c, x.log)
				want := laid(t, c, x.pages+25+x.log, x.log, nil)
				if d := s.Disk(); d.Size() != x.pages+25+x.log || !slices.Equal(d.Image(), want.Image()) || len(d.Waits()) != 0 {
					t.Errorf("Create of %+v, %d: the disk is another", c, x.log)
				}
				if a, b := s.Reads(); a != 0 || b != 0 || s.Config() != c || s.Pages() != newPages(v) {
					t.Errorf("Create of %+v: Reads %d, %d, Config %+v, Pages %d", c, a, b, s.Config(), s.Pages())
				}
				shows(t, s, x.log, nil, "a new store")
				shows(t, open(t, s.Disk(), x.log), x.log, nil, "a new store, opened")
			}
		}
	}
}

// P26.1: what Create refuses.
func TestCreateRefuses(t *testing.T) {
	good := conf(api.Grid, 2, 3, 40)
	refused := func(c api.Config, log int) {
		t.Helper()
		if s, e := store.Create(c, log); s != nil || e != api.BadRequest {
			t.Errorf("Create of %+v, %d: %v, %d", c, log, s != nil, e)
		}
	}
	for _, log := range []int{100, 2, 1, 0, math.MaxInt} { // whatever the log is (R2)
		for _, n := range []int{0, -1, 4, 5, 257, 1<<32 + 1, math.MinInt, math.MaxInt} {
			c := good
			c.Variant = n
			refused(c, log)
		}
		for _, v := range variants() {
			for _, c := range []api.Config{
				{}, {Variant: v}, conf(v, 0, 3, 40), conf(v, 7, 3, 40), conf(v, -1, 3, 40), conf(v, math.MaxInt, 3, 40), conf(v, math.MinInt, 3, 40),
				conf(v, 2, 1, 40), conf(v, 2, 0, 40), conf(v, 2, -1, 40), conf(v, 2, 17, 40), conf(v, 2, 258, 40), conf(v, 2, math.MaxInt, 40),
				conf(v, 2, 3, 3), conf(v, 2, 3, 0), conf(v, 2, 3, -1), conf(v, 2, 3, math.MinInt), conf(v, 2, 3, 1000), conf(v, 2, 3, math.MaxInt),
				conf(v, 2, 3, 401), conf(v, 2, 3, 402), conf(v, 2, 3, 980), conf(v, 2, 3, 999), // of which there are engines
			} {
				refused(c, log)
			}
		}
	}
	for _, v := range variants() {
		for _, log := range []int{1, 0, -1, 401, 402, 900, 999, math.MinInt, math.MaxInt} {
			refused(conf(v, 2, 3, 40), log)
			refused(conf(v, 2, 3, 400), log)
		}
		create(t, conf(v, 2, 3, 400), 400)
		create(t, conf(v, 6, 16, 4), 400)
	}
}

// P26.1: a log that has no room for a new store's pages and the head.
func TestCreateJournalFull(t *testing.T) {
	for _, v := range variants() {
		for dim := 1; dim <= 6; dim++ {
			for log := 2; log < 10; log++ {
				s, e := store.Create(conf(v, dim, 3, 40), log)
				full := log-1 < newLaid(v)+1
				if full && (s != nil || e != api.JournalFull) || !full && (s == nil || e != api.OK) {
					t.Errorf("Create of variant %d, a log of %d: %v, %d", v, log, s != nil, e)
				}
			}
		}
	}
}

// some are so many records, no two of one Key, in no order.
func some(dim int, n int) []api.Record {
	var out []api.Record
	for i := range n {
		k := make(api.Key, dim)
		for at := range k {
			k[at] = uint32(i+1) * 2654435761 * uint32(2*at+1)
		}
		out = append(out, api.Record{Key: k, Data: strings.Repeat("d", i%41)})
	}
	return out
}

// risen are records in their order.
func risen(l []api.Record) []api.Record {
	out := slices.Clone(l)
	slices.SortFunc(out, func(a api.Record, b api.Record) int { return slices.Compare(a.Key, b.Key) })
	return out
}

// P26.1: of a disk that was made without a store, and goes on from there.
func TestOpen(t *testing.T) {
	for _, v := range variants() {
		for _, dim := range []int{1, 2, 6} {
			for _, n := range []int{0, 1, 7, 60} {
				for _, x := range []struct{ pages, size, log int }{{300, 600, 200}, {400, 825, 400}, {999, 1000, 500}, {401, 400, 250}} {
					c := conf(v, dim, 3, x.pages)
					d := laid(t, c, x.size, x.log, some(dim, n))
					s := open(t, d, x.log)
					if a, b := s.Reads(); s.Disk() != d || s.Config() != c || a != 0 || b != 0 {
						t.Fatalf("Open: %v, %+v, %d, %d", s.Disk() == d, s.Config(), a, b)
					}
					inner, _ := engine.New(c)
					inner.Load(some(dim, n))
					if s.Pages() != inner.Pages() {
						t.Errorf("Open: Pages %d, want %d", s.Pages(), inner.Pages())
					}
					shows(t, s, x.log, risen(some(dim, n)), "opened")
					more := make(api.Key, dim)
					does(t, s, put("more", more...))
					shows(t, open(t, d, x.log), x.log, append([]api.Record{{Key: more, Data: "more"}}, risen(some(dim, n))...), "opened again")
				}
			}
		}
	}
}

// fails expects of an Open that error, and that nothing is written.
func fails(t *testing.T, d *disk.Disk, log int, want api.Errno, what string) {
	t.Helper()
	untouched(t, d, what, func() {
		if s, e := store.Open(d, log); s != nil || e != want {
			t.Errorf("Open %s: %v, %d, want %d", what, s != nil, e, want)
		}
	})
}

func blank(pages int) []string { return slices.Repeat([]string{page.Blank()}, pages) }

// P26.1: the errors of pager.Open.
func TestOpenOfNoPager(t *testing.T) {
	for _, log := range []int{2, 100, 0, -1, 900, 901} {
		fails(t, nil, log, api.BadRequest, "of no disk")
		fails(t, new(disk.Disk), log, api.BadRequest, "of a disk without pages")
	}
	for _, pages := range []int{4, 10, 1000} {
		fails(t, of(t, blank(pages)), 2, api.ErrSum, "of blank pages")
		for _, log := range []int{1, 0, -1, 901, pages - 1, pages, math.MinInt, math.MaxInt} {
			fails(t, of(t, blank(pages)), log, api.BadRequest, "with no such log")
		}
	}
	for _, v := range variants() {
		c := conf(v, 2, 3, 100)
		d := laid(t, c, 250, 100, some(2, 20))
		for _, log := range []int{1, 0, -1, 249, 250, 901, math.MinInt, math.MaxInt} {
			fails(t, d, log, api.BadRequest, "with no such log")
		}
		fails(t, d, 248, api.ErrSum, "with a log that begins too soon")
		for n := 1; n <= 5; n++ {
			torn := d.Image()
			torn[n], _ = page.Torn(torn[n], 7)
			fails(t, of(t, torn), 100, api.ErrSum, "of a torn page")
			torn[n] = page.Blank()
			fails(t, of(t, torn), 100, api.ErrSum, "of a blank page")
			torn[n] = torn[0]
			fails(t, of(t, torn), 100, api.ErrSum, "of another page")
		}
		bare := slices.Concat(blank(1), d.Image()[1:150], blank(100))
		fails(t, of(t, bare), 100, api.ErrSum, "without a head and a journal")
		bare[0] = d.Image()[0]
		shows(t, open(t, of(t, bare), 100), 100, risen(some(2, 20)), "without a journal")
	}
}

// P26.1: pages that are no store's.
func TestOpenOfNoStore(t *testing.T) {
	with := func(l []api.Page) *disk.Disk {
		d, _ := disk.New(250)
		p, _ := pager.Format(d, 100)
		if e := p.Commit(l); e != api.OK {
			t.Fatalf("pager's Commit: %d", e)
		}
		return d
	}
	formatted, _ := disk.New(250)
	pager.Format(formatted, 100)
	fails(t, formatted, 100, api.ErrForm, "of no pages")
	fails(t, with(nil), 100, api.ErrForm, "of no pages")
	fails(t, with([]api.Page{{Kind: 1, Body: "CADA"}}), 100, api.ErrForm, "of a mark alone")
	fails(t, with([]api.Page{{Kind: 2}, {Kind: 3, Number: 1, Body: "x"}}), 100, api.ErrForm, "of pages that are none")
	for _, v := range variants() {
		d := laid(t, conf(v, 2, 3, 100), 250, 100, some(2, 20))
		p, _ := pager.Open(d, 100)
		last := len(p.Pages()) - 1
		for _, spoil := range []func(l []api.Page) []api.Page{
			func(l []api.Page) []api.Page { return l[:last] },
			func(l []api.Page) []api.Page { return l[1:] },
			func(l []api.Page) []api.Page { return append(l, l[last]) },
			func(l []api.Page) []api.Page { l[last], l[last-1] = l[last-1], l[last]; return l },
			func(l []api.Page) []api.Page { l[last].Kind = api.PageScale; return l },
			func(l []api.Page) []api.Page { l[last].Body += "\x00"; return l },
			func(l []api.Page) []api.Page { l[0].Body = "CADB" + l[0].Body[4:]; return l },
			func(l []api.Page) []api.Page { l[0].Body = l[0].Body[:7] + "\x00\x03" + l[0].Body[9:]; return l },
		} {
			l := spoil(p.Pages())
			for n := range l {
				l[n].Number = n
			}
			fails(t, with(l), 100, api.ErrForm, "of what is no store")
		}
	}
}

// P26.1: of one that there is not, and of one that neither Create nor Open made.
func TestNone(t *testing.T) {
	for _, s := range []*store.Store{nil, new(store.Store)} {
		for do := -1; do < 15; do++ {
			for dim := range 8 {
				k := make(api.Key, dim)
				r := request.Request{Do: do, Key: k, Box: api.Box{Low: k, High: k}}
				tells(t, s, r, 0, api.BadRequest, "of none")
			}
		}
		if a, b := s.Reads(); s.Disk() != nil || s.Config() != (api.Config{}) || s.Pages() != 0 || a != 0 || b != 0 {
			t.Errorf("of none: %v, %+v, %d, %d, %d", s.Disk(), s.Config(), s.Pages(), a, b)
		}
	}
}

// P26.1: Disk is the very one.
func TestDisk(t *testing.T) {
	for _, v := range variants() {
		s := create(t, conf(v, 1, 2, 40), 40)
		d := s.Disk()
		does(t, s, put("a", 1))
		does(t, s, plainly(request.Begin))
		if s.Disk() != d {
			t.Error("Disk is another one in a transaction")
		}
		does(t, s, put("b", 2))
		does(t, s, plainly(request.Commit))
		does(t, s, plainly(request.Close))
		if s.Disk() != d {
			t.Error("Disk is another one behind Close")
		}
		x := open(t, d, 40)
		if x.Disk() != d {
			t.Error("Disk is not the one that was opened")
		}
		shows(t, x, 40, []api.Record{rec("a", 1), rec("b", 2)}, "opened")
	}
}

// P26.2: of each kind what may not be.
func TestBadRequests(t *testing.T) {
	for _, v := range variants() {
		for _, dim := range []int{1, 2, 6} {
			s := create(t, conf(v, dim, 3, 100), 100)
			does(t, s, load(some(dim, 9)...))
			wrong := request.Request{
				Key: make(api.Key, dim+1), Data: strings.Repeat("d", 41), Box: api.Box{Low: slices.Repeat(api.Key{9}, dim), High: make(api.Key, dim)},
				At: []int{dim}, Most: 1001, Records: []api.Record{rec("d", make(api.Key, dim)...), {}},
			}
			for _, begun := range []bool{false, true} {
				if begun {
					does(t, s, plainly(request.Begin))
				}
				for do := -2; do <= 15; do++ {
					r := wrong
					r.Do = do
					if do == request.Close || begun && (do == request.Commit || do == request.Abort) || !begun && do == request.Begin {
						continue
					}
					a, b := s.Reads()
					untouched(t, s.Disk(), "BadRequest", func() { tells(t, s, r, 0, api.BadRequest, "that may not be") })
					if c, d := s.Reads(); c != a || d != b {
						t.Errorf("Do %d, that may not be, has read", do)
					}
				}
				if a := does(t, s, everything()); !sameRecords(a.Records, risen(some(dim, 9))) {
					t.Error("what may not be has changed something")
				}
			}
			does(t, s, plainly(request.Abort))
			shows(t, s, 100, risen(some(dim, 9)), "behind what may not be")
		}
	}
}

// P26.2: each request outside a transaction.
func TestOutside(t *testing.T) {
	const h = 1 << 31
	for _, v := range variants() {
		s := create(t, conf(v, 2, 2, 100), 100)
		tells(t, s, get(1, 1), 0, api.NotFound, "of a new store")
		tells(t, s, del(1, 1), 0, api.NotFound, "of a new store")
		tells(t, s, everything(), 0, api.OK, "of a new store")
		tells(t, s, put("a", 0, 0), 0, api.OK, "new")
		tells(t, s, put("b", 0, h), 0, api.OK, "new")
		tells(t, s, load(rec("c", h, 0), rec("d", h, h), rec("C", h, 0)), 3, api.OK, "one Key of which comes twice")
		tells(t, s, load(), 0, api.OK, "of none")
		tells(t, s, put("A", 0, 0), 0, api.OK, "again")
		if a := does(t, s, get(0, 0)); !same(a, store.Answer{Data: "A"}) {
			t.Errorf("Get: %+v", a)
		}
		for i, x := range []struct {
			r    request.Request
			want string
		}{
			{window(api.Key{0, 0}, api.Key{math.MaxUint32, math.MaxUint32}), "AbCd"}, {window(api.Key{0, 1}, api.Key{h, h}), "bd"}, {window(api.Key{1, 1}, api.Key{2, 2}), ""},
			{window(api.Key{h, 0}, api.Key{h, 0}), "C"}, {everything(), "AbCd"},
			{request.Request{Do: request.Partial, At: []int{1}, Key: api.Key{h}}, "bd"}, {request.Request{Do: request.Partial, At: []int{0}, Key: api.Key{h}}, "Cd"},
			{request.Request{Do: request.Partial, At: []int{0, 1}, Key: api.Key{h, h}}, "d"}, {request.Request{Do: request.Partial, At: []int{0}, Key: api.Key{7}}, ""},
			{request.Request{Do: request.Near, Key: api.Key{h, 7}, Most: 2}, "Cd"}, {request.Request{Do: request.Near, Key: api.Key{h, h}, Most: 1000}, "dAbC"},
			{request.Request{Do: request.Near, Key: api.Key{h, h}}, ""},
		} {
			a := does(t, s, x.r)
			if data(a.Records) != x.want || a.Data != "" || a.N != 0 {
				t.Errorf("case %d, %s: %+v, want %q", i, shown(x.r), a, x.want)
			}
		}
		if a := does(t, s, request.Request{Do: request.Count, Box: api.Box{Low: api.Key{0, 1}, High: api.Key{h, h}}}); !same(a, store.Answer{N: 2}) {
			t.Errorf("Count: %+v", a)
		}
		tells(t, s, del(0, 0), 0, api.OK, "of what is there")
		tells(t, s, del(0, 0), 0, api.NotFound, "of what is gone")
		tells(t, s, get(0, 0), 0, api.NotFound, "of what is gone")
		shows(t, s, 100, []api.Record{rec("b", 0, h), rec("C", h, 0), rec("d", h, h)}, "behind all")
	}
}

// P26.2: what is asked outside a transaction writes nothing, and a change writes once.
func TestWrites(t *testing.T) {
	for _, v := range variants() {
		s := create(t, conf(v, 2, 3, 100), 100)
		does(t, s, load(some(2, 20)...))
		for _, r := range []request.Request{
			get(some(2, 1)[0].Key...), get(1, 1), everything(), window(api.Key{0, 0}, api.Key{1 << 31, 1 << 31}),
			{Do: request.Count, Box: api.Box{Low: api.Key{0, 0}, High: api.Key{9, 9}}}, {Do: request.Near, Key: api.Key{1, 2}, Most: 5}, del(1, 1),
			plainly(request.Begin), put("x", 1, 1), load(some(2, 30)...), del(1, 1), get(2, 2), everything(), plainly(request.Abort),
		} {
			untouched(t, s.Disk(), shown(r), func() { s.Do(r) })
		}
		for i, r := range []request.Request{put("x", 1, 1), load(some(2, 30)...), del(1, 1), load(), put("x", 1, 1), put("x", 1, 1)} {
			p, _ := pager.Open(s.Disk(), 100)
			_, _, flushes := s.Disk().Counts()
			does(t, s, r)
			q, _ := pager.Open(s.Disk(), 100)
			_, _, f := s.Disk().Counts()
			if q.Tx() != p.Tx()+1 || f != flushes+4 || len(s.Disk().Waits()) != 0 {
				t.Errorf("case %d: %d transactions, %d flushes, %v waits", i, q.Tx()-p.Tx(), f-flushes, s.Disk().Waits())
			}
		}
	}
}

// P26.2: a transaction that is committed, and one that is given up.
func TestTransaction(t *testing.T) {
	const q = 1 << 28 // so that no points are near one another
	for _, v := range variants() {
		s := create(t, conf(v, 1, 2, 100), 100)
		does(t, s, load(rec("a", q), rec("b", 2*q)))
		for _, end := range []int{request.Abort, request.Commit} {
			tells(t, s, plainly(request.Commit), 0, api.BadRequest, "in no transaction")
			tells(t, s, plainly(request.Abort), 0, api.BadRequest, "in no transaction")
			untouched(t, s.Disk(), "inside", func() {
				tells(t, s, plainly(request.Begin), 0, api.OK, "in no transaction")
				tells(t, s, plainly(request.Begin), 0, api.BadRequest, "in a transaction")
				does(t, s, put("C", 3*q))
				does(t, s, put("A", q))
				does(t, s, del(2*q))
				tells(t, s, del(2*q), 0, api.NotFound, "inside")
				tells(t, s, get(2*q), 0, api.NotFound, "inside")
				tells(t, s, load(rec("d", 4*q), rec("e", 5*q)), 2, api.OK, "inside")
				for _, r := range []request.Request{everything(), window(api.Key{q}, api.Key{9 * q}), {Do: request.Near, Key: api.Key{0}, Most: 9}} {
					if a := does(t, s, r); data(a.Records) != "ACde" {
						t.Errorf("%s, inside: %+v", shown(r), a)
					}
				}
				if a := does(t, s, get(q)); a.Data != "A" {
					t.Errorf("Get inside: %+v", a)
				}
				tells(t, s, request.Request{Do: request.Count, Box: api.Box{Low: api.Key{3 * q}, High: api.Key{9 * q}}}, 3, api.OK, "inside")
			})
			whole(t, s.Disk(), 100, s.Config(), plain{{q}: "a", {2 * q}: "b"}, "in the midst of a transaction")
			tells(t, s, plainly(end), 0, api.OK, "in a transaction")
			tells(t, s, plainly(request.Commit), 0, api.BadRequest, "behind the end")
			tells(t, s, plainly(request.Abort), 0, api.BadRequest, "behind the end")
			if end == request.Abort {
				shows(t, s, 100, []api.Record{rec("a", q), rec("b", 2*q)}, "behind Abort")
			} else {
				shows(t, s, 100, []api.Record{rec("A", q), rec("C", 3*q), rec("d", 4*q), rec("e", 5*q)}, "behind Commit")
				shows(t, open(t, s.Disk(), 100), 100, []api.Record{rec("A", q), rec("C", 3*q), rec("d", 4*q), rec("e", 5*q)}, "opened behind Commit")
			}
		}
		does(t, s, plainly(request.Begin))
		tells(t, s, plainly(request.Commit), 0, api.OK, "in which nothing was done")
		does(t, s, put("z", 9*q))
		does(t, s, plainly(request.Begin))
		if a := does(t, s, get(9*q)); a.Data != "z" {
			t.Errorf("Get in another transaction: %+v", a)
		}
	}
}

// P26.2: Close, outside and inside a transaction, and what comes behind it.
func TestClose(t *testing.T) {
	for _, v := range variants() {
		for _, begun := range []bool{false, true} {
			s := create(t, conf(v, 1, 2, 100), 100)
			does(t, s, load(rec("a", 1), rec("b", 2)))
			does(t, s, get(1))
			pages := s.Pages()
			r1, r2 := s.Reads()
			if begun {
				does(t, s, plainly(request.Begin))
				does(t, s, load(some(1, 30)...))
				does(t, s, get(2))
			}
			untouched(t, s.Disk(), "Close", func() { tells(t, s, plainly(request.Close), 0, api.OK, "of what is open") })
			check := func() {
				t.Helper()
				if a, b := s.Reads(); s.Pages() != pages || a != r1 || b != r2 || s.Config() != conf(v, 1, 2, 100) || s.Disk() == nil {
					t.Errorf("behind Close: Pages %d, Reads %d, %d, Config %+v", s.Pages(), a, b, s.Config())
				}
			}
			check()
			untouched(t, s.Disk(), "behind Close", func() {
				for _, r := range []request.Request{
					put("x", 1), del(1), get(1), window(api.Key{0}, api.Key{9}), everything(), {Do: request.Count, Box: api.Box{Low: api.Key{0}, High: api.Key{9}}},
					{Do: request.Near, Key: api.Key{1}, Most: 3}, load(rec("x", 1)), plainly(request.Begin), plainly(request.Commit), plainly(request.Abort), plainly(request.Close),
					plainly(0), plainly(13),
				} {
					tells(t, s, r, 0, api.BadRequest, "behind Close")
				}
			})
			check()
			shows(t, open(t, s.Disk(), 100), 100, []api.Record{rec("a", 1), rec("b", 2)}, "opened behind Close")
		}
	}
}

// P26.1: Pages and Reads, outside and inside a transaction.
func TestPagesAndReads(t *testing.T) {
	for _, v := range variants() {
		s := create(t, conf(v, 1, 2, 100), 100)
		x, _ := engine.New(conf(v, 1, 2, 100)) // what all of it is done to as well
		alike := func(x *engine.Engine, what string) {
			t.Helper()
			a, b := s.Reads()
			if c, d := x.Reads(); a != c || b != d || s.Pages() != x.Pages() {
				t.Fatalf("variant %d, %s: Reads %d, %d, Pages %d, want %d, %d, %d", v, what, a, b, s.Pages(), c, d, x.Pages())
			}
		}
		change := func(x *engine.Engine, many int) {
			t.Helper()
			l := some(1, many)
			does(t, s, load(l...))
			x.Load(l)
			alike(x, "Load")
			does(t, s, get(l[0].Key...))
			x.Get(l[0].Key)
			alike(x, "Get")
			tells(t, s, get(5), 0, api.NotFound, "of what is not there")
			x.Get(api.Key{5})
			alike(x, "Get of what is not there")
			tells(t, s, get(5, 5), 0, api.BadRequest, "that may not be")
			tells(t, s, window(api.Key{5}, api.Key{4}), 0, api.BadRequest, "that may not be")
			alike(x, "what may not be")
			b := api.Box{Low: api.Key{0}, High: api.Key{1 << 31}}
			does(t, s, window(b.Low, b.High))
			x.Window(b)
			alike(x, "Window")
			does(t, s, request.Request{Do: request.Count, Box: b})
			x.Count(b)
			alike(x, "Count")
			does(t, s, request.Request{Do: request.Partial, At: []int{0}, Key: l[1].Key})
			x.Window(api.Box{Low: l[1].Key, High: l[1].Key})
			alike(x, "Partial")
			does(t, s, request.Request{Do: request.Near, Key: api.Key{7}, Most: 5})
			alike(x, "Near, which reads nothing")
			does(t, s, del(l[2].Key...))
			x.Delete(l[2].Key)
			alike(x, "Delete")
			does(t, s, put("", 7))
			x.Put(rec("", 7))
			alike(x, "Put")
		}
		change(x, 9)
		does(t, s, plainly(request.Begin))
		alike(x, "Begin")
		change(x.Copy(), 30)
		if s.Pages() == x.Pages() {
			t.Fatal("inside there are no more pages")
		}
		does(t, s, plainly(request.Abort))
		alike(x, "Abort")
		does(t, s, plainly(request.Begin))
		y := x.Copy()
		change(y, 35)
		does(t, s, plainly(request.Commit))
		alike(y, "Commit")
		change(y, 40)
	}
}
