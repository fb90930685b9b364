package store_test

import (
	"math/rand"
	"slices"
	"strconv"
	"testing"

	"cadastre/api"
	"cadastre/chain"
	"cadastre/engine"
	"cadastre/image"
	"cadastre/linear"
	"cadastre/pager"
	"cadastre/request"
	"cadastre/store"
)

// as is a store as it is: its records, its pages, what it has read, its disk.
type as struct {
	records []api.Record
	pages   int
	reads   [2]int
	image   []string
}

func asIs(t *testing.T, s *store.Store) as {
	t.Helper()
	var a as
	a.reads[0], a.reads[1] = s.Reads() // ahead of what is read here
	a.records, a.pages, a.image = does(t, s, everything()).Records, s.Pages(), s.Disk().Image()
	return a
}

// stays expects that a request tells an error, and that all is as it was, but what was read to see that.
func stays(t *testing.T, s *store.Store, log int, r request.Request, n int, want api.Errno) {
	t.Helper()
	before := asIs(t, s)
	reads, buckets := s.Reads()
	untouched(t, s.Disk(), shown(r), func() { tells(t, s, r, n, want, "for which there is no room") })
	if a, b := s.Reads(); a != reads || b != buckets {
		t.Errorf("%s has read", shown(r))
	}
	after := asIs(t, s)
	if after.pages != before.pages || !slices.Equal(after.image, before.image) || !sameRecords(after.records, before.records) {
		t.Fatalf("%s, %d: it is not as it was", shown(r), want)
	}
	whole(t, s.Disk(), log, s.Config(), plainOf(after.records), shown(r))
}

// spread is a point of two coordinates, far from those of all other numbers.
func spread(i int) api.Key {
	return api.Key{uint32(i+1) * 2654435761, uint32(i+1) * 2246822519}
}

// filled is a store into which points are put, one behind the other, till there is no room for one more: that one's number.
func filled(t *testing.T, c api.Config, log int, at func(i int) api.Key, want api.Errno) (*store.Store, int) {
	t.Helper()
	s := create(t, c, log)
	for i := range 2000 {
		before := s.Pages()
		a, e := s.Do(put("d", at(i)...))
		if e == api.OK {
			continue
		}
		if e != want || !same(a, store.Answer{}) || s.Pages() != before {
			t.Fatalf("%+v, Put number %d: %+v, %d, want %d", c, i, a, e, want)
		}
		return s, i
	}
	t.Fatalf("%+v is never full", c)
	return nil, 0
}

// records are those of so many points.
func records(n int, at func(i int) api.Key) []api.Record {
	var out []api.Record
	for i := range n {
		out = append(out, api.Record{Key: at(i), Data: "d"})
	}
	return out
}

// P1, P26.2: DiskFull leaves all as it was, outside and inside a transaction; of Load the N is the engine's.
func TestDiskFull(t *testing.T) {
	for _, v := range variants() {
		for _, c := range []api.Config{conf(v, 2, 2, 4), conf(v, 2, 2, 7), conf(v, 2, 16, 12), conf(v, 2, 3, 60)} {
			s, n := filled(t, c, 100, spread, api.DiskFull)
			first, next := api.Record{Key: spread(0), Data: "d"}, api.Record{Key: spread(n), Data: "d"}
			asked := []struct {
				r request.Request
				n int
			}{
				{put("d", next.Key...), 0}, {load(next), 0}, {load(first, next), 1}, {load(first, first, next, first), 2}, {load(append(records(n, spread), next, first)...), n},
			}
			for _, x := range asked {
				stays(t, s, 100, x.r, x.n, api.DiskFull)
			}
			does(t, s, plainly(request.Begin))
			for _, x := range asked {
				untouched(t, s.Disk(), "DiskFull inside", func() { tells(t, s, x.r, x.n, api.DiskFull, "inside") })
				if a := does(t, s, everything()); !sameRecords(a.Records, risen(records(n, spread))) {
					t.Fatalf("%s, inside: DiskFull has changed something", shown(x.r))
				}
			}
			does(t, s, del(spread(1)...)) // the transaction goes on
			does(t, s, plainly(request.Commit))
			shows(t, s, 100, risen(slices.Delete(records(n, spread), 1, 2)), "behind DiskFull")
		}
	}
}

// P26.2: of Load the N that the engine tells, with each of its errors.
func TestLoadTells(t *testing.T) {
	r := rand.New(rand.NewSource(1))
	told := map[api.Errno]int{}
	for range 400 {
		c := conf(1+r.Intn(3), 2, 2+r.Intn(3), 4+r.Intn(30))
		m := maker{Rand: r, dim: 2, near: r.Intn(3) == 0, most: 300}
		l := m.records()
		x, _ := engine.New(c)
		n, want := x.Load(l)
		s := create(t, c, 100)
		told[want]++
		if r.Intn(2) == 0 {
			does(t, s, plainly(request.Begin))
		}
		a, e := s.Do(load(l...))
		if a.N != n || e != want {
			t.Fatalf("Load of %d into %+v: %d, %d, want %d, %d", len(l), c, a.N, e, n, want)
		}
	}
	if told[api.OK] < 20 || told[api.DiskFull] < 20 || told[api.DirectoryLimit] < 5 {
		t.Errorf("told: %v", told)
	}
}

// P1, P26.2: DirectoryLimit leaves all as it was, and MOLHPE does not tell it.
func TestDirectoryLimit(t *testing.T) {
	near := func(i int) api.Key { return api.Key{uint32(i), uint32(i)} }
	for _, v := range variants() {
		c := conf(v, 2, 2, 400)
		want := api.DirectoryLimit
		if v == api.Molhpe {
			want = api.DiskFull
		}
		s, n := filled(t, c, 400, near, want)
		first, next := api.Record{Key: near(0), Data: "d"}, api.Record{Key: near(n), Data: "d"}
		stays(t, s, 400, put("d", next.Key...), 0, want)
		stays(t, s, 400, load(first, first, next, first), 2, want)
		stays(t, s, 400, load(append(records(n, near), next)...), n, want)
		does(t, s, plainly(request.Begin))
		tells(t, s, put("d", next.Key...), 0, want, "inside")
		tells(t, s, load(first, next), 1, want, "inside")
		does(t, s, del(near(0)...))
		does(t, s, plainly(request.Commit))
		shows(t, s, 400, risen(records(n, near)[1:]), "behind DirectoryLimit")
	}
}

// P1, P26.2: JournalFull leaves all as it was; the engine has told of Load how many there are.
func TestJournalFull(t *testing.T) {
	for _, v := range variants() {
		for _, log := range []int{7, 8, 12, 20} {
			s := create(t, conf(v, 2, 2, 300), log)
			many := records(120, spread)
			stays(t, s, log, load(many...), 120, api.JournalFull)
			does(t, s, put("a", 1, 1))
			stays(t, s, log, load(many...), 120, api.JournalFull)
			does(t, s, plainly(request.Begin))
			tells(t, s, load(many...), 120, api.OK, "inside")
			if a := does(t, s, everything()); len(a.Records) != 121 {
				t.Errorf("inside there are %d", len(a.Records))
			}
			untouched(t, s.Disk(), "Commit", func() { tells(t, s, plainly(request.Commit), 0, api.JournalFull, "of too much") })
			tells(t, s, plainly(request.Commit), 0, api.BadRequest, "behind JournalFull")
			tells(t, s, plainly(request.Abort), 0, api.BadRequest, "behind JournalFull")
			shows(t, s, log, []api.Record{rec("a", 1, 1)}, "behind JournalFull")
			does(t, s, plainly(request.Begin))
			does(t, s, put("b", 1, 2))
			does(t, s, plainly(request.Commit))
			shows(t, open(t, s.Disk(), log), log, []api.Record{rec("a", 1, 1), rec("b", 1, 2)}, "behind JournalFull, opened")
		}
	}
}

// P1, P26.2: a Put and a Delete, too, may change more pages than a small log takes.
func TestJournalFullOfOne(t *testing.T) {
	told := map[int]int{}
	for _, v := range variants() {
		r := rand.New(rand.NewSource(7))
		log := 6
		s := create(t, conf(v, 1, 2, 300), log)
		m := model{dim: 1, now: plain{}}
		for range 600 {
			k := uint32(r.Intn(60)) << 26
			q := put("d", k)
			if r.Intn(3) == 0 {
				q = del(k)
			}
			before := asIs(t, s)
			if _, e := both(t, s, &m, q); e == api.JournalFull {
				told[q.Do]++
				after := asIs(t, s)
				if after.pages != before.pages || !slices.Equal(after.image, before.image) || !sameRecords(after.records, before.records) {
					t.Fatalf("%s, JournalFull: it is not as it was", shown(q))
				}
			}
			whole(t, s.Disk(), log, s.Config(), m.now, shown(q))
		}
	}
	if told[request.Put] == 0 || told[request.Delete] == 0 {
		t.Errorf("JournalFull was told %v times", told)
	}
}

// P26.3: a disk that has died. What is only read is told as ever; ErrForm closes the store.
func TestDied(t *testing.T) {
	for _, v := range variants() {
		for _, r := range []request.Request{put("x", 9<<28), del(1 << 28), load(rec("x", 8<<28), rec("y", 9<<28)), load(), plainly(request.Commit)} {
			s := create(t, conf(v, 1, 2, 50), 50)
			does(t, s, load(rec("a", 1<<28), rec("b", 2<<28)))
			pages := s.Pages()
			s.Disk().Fuse(0)
			inside := r.Do == request.Commit
			if inside {
				does(t, s, plainly(request.Begin))
				does(t, s, put("x", 3<<28))
				does(t, s, put("y", 4<<28))
			}
			if a := does(t, s, get(1<<28)); a.Data != "a" {
				t.Errorf("Get of a disk that has died: %+v", a)
			}
			tells(t, s, get(7), 0, api.NotFound, "of a disk that has died")
			tells(t, s, del(7), 0, api.NotFound, "of a disk that has died")
			tells(t, s, get(7, 7), 0, api.BadRequest, "of a disk that has died")
			n := len(r.Records) // the engine has told it
			tells(t, s, r, n, api.ErrForm, "of a disk that has died")
			if s.Pages() != pages || s.Config() != conf(v, 1, 2, 50) || s.Disk() == nil {
				t.Errorf("behind ErrForm: Pages %d, Config %+v", s.Pages(), s.Config())
			}
			behind := func() {
				t.Helper()
				untouched(t, s.Disk(), "behind ErrForm", func() {
					for do := -1; do < 15; do++ {
						q := request.Request{Do: do, Key: api.Key{1 << 20}, Box: api.Box{Low: api.Key{0}, High: api.Key{1 << 31}}}
						if do == request.Partial {
							q.Key = nil // and no At
						}
						tells(t, s, q, 0, api.BadRequest, "behind ErrForm")
					}
				})
			}
			behind()
			s.Disk().Crash(nil, -1, 0)
			behind()
			shows(t, open(t, s.Disk(), 50), 50, []api.Record{rec("a", 1<<28), rec("b", 2<<28)}, "opened behind ErrForm")
		}
	}
}

// P26.2, P26.3: what tells another error lays nothing, so that a disk that has died is not seen.
func TestDiedButRefused(t *testing.T) {
	for _, v := range variants() {
		s, n := filled(t, conf(v, 2, 2, 7), 100, spread, api.DiskFull)
		s.Disk().Fuse(0)
		tells(t, s, put("d", spread(n)...), 0, api.DiskFull, "of a disk that has died")
		tells(t, s, load(api.Record{Key: spread(n)}), 0, api.DiskFull, "of a disk that has died")
		if a := does(t, s, everything()); len(a.Records) != n {
			t.Errorf("of a disk that has died there are %d", len(a.Records))
		}
		does(t, s, plainly(request.Begin))
		does(t, s, plainly(request.Abort))
		does(t, s, plainly(request.Close))
		tells(t, s, everything(), 0, api.BadRequest, "behind Close")
	}
}

// P1, P5: all kinds by chance, outside and inside, beside a map, with errors of room; behind each request the disk is whole.
func TestBesideAMap(t *testing.T) {
	for _, v := range variants() {
		t.Run(strconv.Itoa(v), func(t *testing.T) {
			t.Parallel()
			told := besideAMap(t, v)
			for do := request.Put; do <= request.Close; do++ {
				if told[do][api.OK] < 10 || do != request.Close && told[do][api.BadRequest] == 0 {
					t.Errorf("of %d were told %v", do, told[do])
				}
			}
			for _, do := range []int{request.Put, request.Load} {
				if told[do][api.DiskFull] == 0 || told[do][api.JournalFull] == 0 || (told[do][api.DirectoryLimit] == 0) != (v == api.Molhpe) {
					t.Errorf("of %d were told %v", do, told[do])
				}
			}
			if told[request.Get][api.NotFound] < 10 || told[request.Delete][api.NotFound] < 10 || told[request.Commit][api.JournalFull] < 3 {
				t.Errorf("told: %v", told)
			}
		})
	}
}

// besideAMap is how often a variant has told which error of which kind.
func besideAMap(t *testing.T, v int) map[int]map[api.Errno]int {
	told := map[int]map[api.Errno]int{}
	for do := -1; do < 15; do++ {
		told[do] = map[api.Errno]int{}
	}
	r := rand.New(rand.NewSource(int64(v)))
	for _, x := range []struct {
		dim, cap, pages, log int
		near                 bool
	}{
		{1, 2, 400, 400, false}, {2, 3, 400, 400, false}, {6, 16, 400, 400, false}, {2, 2, 12, 60, false}, {1, 2, 9, 30, false}, {3, 2, 60, 8, false},
		{1, 2, 300, 200, true}, {2, 2, 300, 12, true}, {2, 16, 30, 10, false}, {4, 4, 40, 100, true},
	} {
		c := conf(v, x.dim, x.cap, x.pages)
		s := create(t, c, x.log)
		m := model{dim: x.dim, now: plain{}}
		makes := maker{Rand: r, dim: x.dim, near: x.near, most: 20}
		var seen []string
		for n := range 500 {
			q := makes.any()
			if n%160 == 159 {
				q = plainly(request.Close)
			}
			_, e := both(t, s, &m, q)
			told[q.Do][e]++
			if now := s.Disk().Image(); !slices.Equal(now, seen) || q.Do == request.Commit {
				whole(t, s.Disk(), x.log, c, m.now, shown(q))
				seen = now
			}
			if m.closed {
				both(t, s, &m, makes.any())
				s, m.closed = open(t, s.Disk(), x.log), false
			}
		}
		for _, q := range []request.Request{everything(), plainly(request.Close), everything()} {
			both(t, s, &m, q)
		}
		whole(t, s.Disk(), x.log, c, m.now, "at last")
	}
	return told
}

// P3: all three variants answer alike, and when they are opened, too.
func TestOneFace(t *testing.T) {
	r := rand.New(rand.NewSource(1))
	for _, dim := range []int{1, 2, 3, 6} {
		var all []*store.Store
		for _, v := range variants() {
			all = append(all, create(t, conf(v, dim, 16, 400), 400))
		}
		makes := maker{Rand: r, dim: dim, wide: true, most: 20}
		for n := range 600 {
			q := makes.any()
			if n%250 == 249 {
				q = plainly(request.Close)
			}
			want, f := all[0].Do(q)
			if f == api.DiskFull || f == api.JournalFull || f == api.DirectoryLimit {
				t.Fatalf("%s: %d", shown(q), f)
			}
			for i, s := range all[1:] {
				if have, e := s.Do(q); e != f || !same(have, want) {
					t.Fatalf("%s: variant %d: %+v, %d, the first one: %+v, %d", shown(q), i+2, have, e, want, f)
				}
			}
			if q.Do == request.Close && f == api.OK {
				for i, s := range all {
					all[i] = open(t, s.Disk(), 400)
				}
			}
		}
	}
}

// P4: what a Get reads.
func TestReadsOfAGet(t *testing.T) {
	r := rand.New(rand.NewSource(1))
	for _, v := range variants() {
		for _, x := range []struct {
			dim, cap int
			near     bool
		}{{1, 2, true}, {2, 2, false}, {2, 16, false}, {6, 3, false}} {
			s := create(t, conf(v, x.dim, x.cap, 400), 400)
			makes := maker{Rand: r, dim: x.dim, near: x.near, most: 10}
			for range 150 {
				s.Do(makes.request(request.Put))
			}
			pages := 0
			for range 300 {
				k := makes.key()
				a, b := s.Reads()
				s.Do(get(k...))
				c, d := s.Reads()
				switch n := chainOf(t, s, k); {
				case v == api.Molhpe && (c != a || d-b != n):
					t.Fatalf("Get of MOLHPE reads %d, %d, want 0, %d", c-a, d-b, n)
				case v != api.Molhpe && (c-a != 1 || d-b != 1):
					t.Fatalf("Get of variant %d reads %d, %d", v, c-a, d-b)
				default:
					pages = max(pages, n)
				}
			}
			if v == api.Molhpe && x.cap == 2 && pages < 2 {
				t.Error("no chain has more than one page")
			}
			a, b := s.Reads()
			s.Do(get(make(api.Key, x.dim+1)...))
			if c, d := s.Reads(); c != a || d != b {
				t.Error("Get of what may not be reads")
			}
		}
	}
}

// chainOf is how many pages the chain of a point has on the disk; 0, if there are no chains.
func chainOf(t *testing.T, s *store.Store, k api.Key) int {
	t.Helper()
	p, _ := pager.Open(s.Disk(), 400)
	c, state, e := image.Decode(p.Pages())
	if e != api.OK {
		t.Fatalf("image.Decode: %d", e)
	}
	if c.Variant != api.Molhpe {
		return 0
	}
	n, _ := linear.Find(k, state.Molhpe.Level, state.Molhpe.Next)
	return len(chain.Cut(state.Molhpe.Chains[n], c.Cap))
}

// P7: when all is deleted, there are as many pages as at first, outside and inside a transaction.
func TestNothingLeft(t *testing.T) {
	r := rand.New(rand.NewSource(1))
	for _, v := range variants() {
		for _, x := range []struct {
			dim, cap, pages int
			near            bool
		}{{1, 2, 400, false}, {1, 2, 400, true}, {2, 3, 400, false}, {6, 2, 400, false}, {3, 16, 40, false}} {
			c := conf(v, x.dim, x.cap, x.pages)
			s := create(t, c, 400)
			first := asIs(t, s)
			makes := maker{Rand: r, dim: x.dim, near: x.near, most: 200}
			for turn := range 4 {
				if turn > 1 {
					does(t, s, plainly(request.Begin))
				}
				for range 120 {
					s.Do(makes.request(request.Put))
				}
				s.Do(makes.request(request.Load))
				l := does(t, s, everything()).Records
				if len(l) < 2 || s.Pages() == first.pages && len(l) > x.cap {
					t.Fatalf("there are %d records on %d pages", len(l), s.Pages())
				}
				r.Shuffle(len(l), func(i int, j int) { l[i], l[j] = l[j], l[i] })
				for _, q := range l {
					before := s.Pages()
					does(t, s, del(q.Key...))
					if s.Pages() > before {
						t.Fatal("a Delete makes more pages")
					}
				}
				if s.Pages() != first.pages {
					t.Fatalf("%+v, nothing left: %d pages, want %d", c, s.Pages(), first.pages)
				}
				if turn > 1 {
					does(t, s, plainly(request.Commit))
				}
				if s.Pages() != first.pages {
					t.Fatalf("%+v, nothing left: %d pages, want %d", c, s.Pages(), first.pages)
				}
				shows(t, s, 400, nil, "nothing left")
				shows(t, open(t, s.Disk(), 400), 400, nil, "nothing left, opened")
				if p, _ := pager.Open(s.Disk(), 400); len(p.Pages()) != newLaid(v) {
					t.Fatalf("nothing left: %d pages are laid", len(p.Pages()))
				}
			}
		}
	}
}
