package store_test

import (
	"maps"
	"math/rand"
	"slices"
	"strconv"
	"testing"

	"cadastre/api"
	"cadastre/check"
	"cadastre/disk"
	"cadastre/request"
	"cadastre/store"
)

// logOf is how many pages the log of the disks of these tests has.
const logOf = 60

// again is a disk as another one is, with the writes that wait.
func again(t *testing.T, d *disk.Disk) *disk.Disk {
	t.Helper()
	out := of(t, d.Image())
	for _, n := range d.Waits() {
		s, _ := d.Read(n) // between two flushes no page is written twice
		out.Write(n, s)
	}
	if !slices.Equal(out.Waits(), d.Waits()) {
		t.Fatal("the writes that wait are others")
	}
	return out
}

// crash is one: what it keeps, and which write it tears, where.
type crash struct {
	kept     []int
	torn, at int
}

// crashes are those that keep none of so many writes that wait, each one alone, all but one, or all; torn ones, too.
func crashes(waits int) []crash {
	all := make([]int, waits)
	for i := range all {
		all[i] = i
	}
	out := []crash{{torn: -1}, {kept: all, torn: -1}}
	for i := range waits {
		others := slices.Delete(slices.Clone(all), i, i+1)
		out = append(out, crash{kept: []int{i}, torn: -1}, crash{kept: others, torn: -1})
		for _, at := range []int{0, 9, 100, 252, 256} {
			out = append(out, crash{torn: i, at: at}, crash{kept: others, torn: i, at: at})
		}
	}
	return out
}

// scene is a store with records, and a request that is under way when the disk dies; what is asked ahead of it is inside a transaction, or is told OK.
type scene struct {
	have  []api.Record
	ahead []request.Request
	under request.Request
}

// scenes are those of points of one coordinate.
func scenes() []scene {
	begin := plainly(request.Begin)
	l := some(1, 20)
	return []scene{
		{nil, nil, put("a", 1)},
		{l[:3], nil, put("x", l[1].Key...)},                              // again
		{l[:4], nil, put("x", 5)},                                        // one more
		{l[:4], nil, del(l[2].Key...)},                                   // one less
		{l[:1], nil, del(l[0].Key...)},                                   // the last one
		{l[:3], nil, load(l[2:12]...)},                                   // many more
		{l[:9], nil, load(rec("x", l[1].Key...), rec("y", l[7].Key...))}, // as many as ahead, on two pages
		{l[:3], nil, load()},                                             // nothing
		{l[:3], []request.Request{begin}, plainly(request.Commit)},       // nothing
		{nil, []request.Request{begin, load(l[:9]...)}, plainly(request.Commit)},
		{l[:9], []request.Request{begin, put("x", l[1].Key...), put("y", l[7].Key...), put("z", l[4].Key...)}, plainly(request.Commit)},
		{l[:9], []request.Request{begin, del(l[0].Key...), del(l[1].Key...), del(l[2].Key...), put("y", 7)}, plainly(request.Commit)},
		{l[:3], []request.Request{put("p", 4), del(l[0].Key...)}, put("q", 9)},
	}
}

// P2, P26.4: wherever the disk dies, and whatever comes to it then.
func TestCrashes(t *testing.T) {
	for _, v := range variants() {
		for i, x := range scenes() {
			t.Run(strconv.Itoa(v)+" "+strconv.Itoa(i), func(t *testing.T) {
				t.Parallel()
				c := conf(v, 1, 2, 100)
				s := create(t, c, logOf)
				does(t, s, load(x.have...))
				before := s.Disk().Image()
				news, olds := 0, 0
				for fuse := 0; ; fuse++ {
					died, old, new, e := dies(t, before, x, fuse)
					for _, k := range crashes(len(died.Waits())) {
						d := again(t, died)
						if f := d.Crash(k.kept, k.torn, k.at); f != api.OK {
							t.Fatalf("Crash: %d", f)
						}
						if behind(t, d, c, old, new, e == api.OK) {
							news++
						} else {
							olds++
						}
					}
					if e == api.OK && len(died.Waits()) == 0 {
						break
					}
				}
				if len(x.under.Records) > 0 && (news < 10 || olds < 10) {
					t.Errorf("%d crashes have left what was under way, %d not", news, olds)
				}
			})
		}
	}
}

// dies is a disk on which a scene was played till its fuse ended, the maps ahead of what was under way and behind it, and what that was told.
func dies(t *testing.T, image []string, x scene, fuse int) (*disk.Disk, plain, plain, api.Errno) {
	t.Helper()
	s := open(t, of(t, image), logOf)
	m := model{dim: 1, now: plainOf(x.have)}
	for _, r := range x.ahead {
		both(t, s, &m, r)
	}
	old := maps.Clone(m.now)
	m.do(x.under, api.OK)
	s.Disk().Fuse(fuse)
	_, e := s.Do(x.under)
	if e != api.OK && e != api.ErrForm {
		t.Fatalf("a fuse of %d: Do %s: %d", fuse, shown(x.under), e)
	}
	if _, f := s.Do(everything()); (f == api.OK) != (e == api.OK) {
		t.Fatalf("a fuse of %d: Do %s: %d, and then %d", fuse, shown(x.under), e, f)
	}
	return s.Disk(), old, m.now, e
}

// behind expects of a disk behind a crash one of two maps, the new one, if that was told; it is whether it is that.
func behind(t *testing.T, d *disk.Disk, c api.Config, old plain, new plain, told bool) bool {
	t.Helper()
	l, e := check.Map(d.Image(), logOf)
	if e != api.OK {
		t.Fatalf("behind a crash: Map: %d", e)
	}
	have := plainOf(l)
	is := maps.Equal(have, new)
	if !is && (told || !maps.Equal(have, old)) {
		t.Fatalf("behind a crash, told OK %v: %v, want %v or %v", told, l, old.all(1), new.all(1))
	}
	for range 2 { // opened again, it is the same
		s := open(t, d, logOf)
		if a := does(t, s, everything()); !sameRecords(a.Records, l) || s.Config() != c {
			t.Fatalf("behind a crash: %v, want %v", a.Records, l)
		}
	}
	whole(t, d, logOf, c, have, "behind a crash")
	return is
}

// P2: what a crash has left goes on; and it may crash again.
func TestCrashBehindCrash(t *testing.T) {
	for _, v := range variants() {
		t.Run(strconv.Itoa(v), func(t *testing.T) {
			t.Parallel()
			r := rand.New(rand.NewSource(int64(v)))
			for _, dim := range []int{1, 2, 3} {
				crashing(t, r, conf(v, dim, 2, 100), 250)
			}
		})
	}
}

// crashing has a disk die again and again, while it is written and while it is opened.
func crashing(t *testing.T, r *rand.Rand, c api.Config, times int) {
	t.Helper()
	s := create(t, c, logOf)
	m := model{dim: c.Dim, now: plain{}}
	makes := maker{Rand: r, dim: c.Dim, most: 8}
	died, kept := 0, 0
	for range times {
		d := s.Disk()
		d.Fuse(r.Intn(60))
		old, new := maps.Clone(m.now), m.now
		for range 1 + r.Intn(12) {
			q := makes.any()
			ahead := maps.Clone(m.now)
			have, e := s.Do(q)
			if e == api.ErrForm {
				died++
				m.do(q, api.OK)
				old, new = ahead, m.now
				break
			}
			if want, f := m.do(q, e); e != f || q.Do != request.Load && !same(have, want) {
				t.Fatalf("Do %s: %+v, %d, want %+v, %d", shown(q), have, e, want, f)
			}
			old, new = m.now, m.now
		}
		chance(r, d)
		for range r.Intn(3) { // it dies again, while it is opened
			d.Fuse(r.Intn(8))
			store.Open(d, logOf)
			chance(r, d)
		}
		s = open(t, d, logOf)
		have := plainOf(does(t, s, everything()).Records)
		switch {
		case maps.Equal(have, new):
			kept++
		case !maps.Equal(have, old):
			t.Fatalf("behind a crash: %v, want %v or %v", have.all(c.Dim), old.all(c.Dim), new.all(c.Dim))
		}
		whole(t, d, logOf, c, have, "behind a crash")
		m = model{dim: c.Dim, now: have}
	}
	if died < times/10 || kept < times/10 || kept == times {
		t.Errorf("%d times it has died, %d times what was under way was there", died, kept)
	}
}

// chance is a crash by chance.
func chance(r *rand.Rand, d *disk.Disk) {
	var kept []int
	torn := -1
	for i := range d.Waits() {
		switch r.Intn(5) {
		case 0, 1:
			kept = append(kept, i)
		case 2:
			if torn < 0 {
				torn = i
			}
		}
	}
	d.Crash(kept, torn, r.Intn(257))
}

// P2: a disk that dies while it is opened, and crashes, is opened then as it would have been without that.
func TestCrashInOpen(t *testing.T) {
	for _, v := range variants() {
		for _, i := range []int{2, 6, 10, 12} {
			t.Run(strconv.Itoa(v)+" "+strconv.Itoa(i), func(t *testing.T) {
				t.Parallel()
				x := scenes()[i]
				s := create(t, conf(v, 1, 2, 100), logOf)
				does(t, s, load(x.have...))
				before := s.Disk().Image()
				e := api.ErrForm
				for fuse := 0; e != api.OK; fuse++ {
					var d *disk.Disk
					d, _, _, e = dies(t, before, x, fuse)
					d.Crash(nil, -1, 0)
					want := does(t, open(t, of(t, d.Image()), logOf), everything()).Records
					for second := range 10 {
						died := again(t, d)
						died.Fuse(second)
						store.Open(died, logOf)
						for _, k := range crashes(len(died.Waits())) {
							y := again(t, died)
							y.Crash(k.kept, k.torn, k.at)
							if a := does(t, open(t, y, logOf), everything()); !sameRecords(a.Records, want) {
								t.Fatalf("a fuse of %d, and of %d in Open: %v, want %v", fuse, second, a.Records, want)
							}
						}
					}
				}
			})
		}
	}
}
