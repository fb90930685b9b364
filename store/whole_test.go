package store_test

import (
	"math/rand"
	"reflect"
	"slices"
	"strings"
	"testing"

	"cadastre/api"
	"cadastre/check"
	"cadastre/disk"
	"cadastre/page"
	"cadastre/request"
	"cadastre/store"
)

// The ten examples of the whole.
func TestExamples(t *testing.T) {
	const h = 1 << 31
	for _, v := range variants() {
		c := conf(v, 2, 2, 100)
		s := create(t, c, 100)
		pages := s.Pages()
		all := func(want string, what string) {
			t.Helper()
			if a := does(t, s, everything()); data(a.Records) != want {
				t.Errorf("%s: %q, want %q", what, data(a.Records), want)
			}
		}

		does(t, s, put("a", 0, 0)) // 1. Put, Get
		if a := does(t, s, get(0, 0)); a.Data != "a" {
			t.Errorf("Get: %+v", a)
		}
		does(t, s, put("A", 0, 0))
		if a := does(t, s, get(0, 0)); a.Data != "A" {
			t.Errorf("Get of what was put again: %+v", a)
		}

		for i, k := range []api.Key{{h, h}, {0, h}, {h, 0}, {h + 9, h}} { // 2. Window
			does(t, s, put(string(rune('b'+i)), k...))
		}
		if a := does(t, s, window(api.Key{0, 0}, api.Key{h, h})); data(a.Records) != "Acdb" {
			t.Errorf("Window: %+v", a)
		}

		if a := does(t, s, request.Request{Do: request.Partial, At: []int{1}, Key: api.Key{h}}); data(a.Records) != "cbe" { // 3. Partial
			t.Errorf("Partial: %+v", a)
		}

		if a := does(t, s, request.Request{Do: request.Near, Key: api.Key{h + 1, h}, Most: 3}); data(a.Records) != "bed" { // 4. Near
			t.Errorf("Near: %+v", a)
		}

		does(t, s, plainly(request.Begin)) // 5. Abort
		does(t, s, put("x", 7, 7))
		does(t, s, plainly(request.Abort))
		all("Acdbe", "behind Abort")

		tells(t, s, load(rec("x", 7, 7), rec(strings.Repeat("x", 41), 8, 8)), 0, api.BadRequest, "one of which may not be") // 6. Load
		all("Acdbe", "behind a Load of one that may not be")

		for fuse := range 30 { // 7. a crash in the midst of a Commit
			x := open(t, of(t, s.Disk().Image()), 100)
			does(t, x, plainly(request.Begin))
			does(t, x, load(rec("x", 7, h), rec("y", h, 7)))
			x.Disk().Fuse(fuse)
			x.Do(plainly(request.Commit))
			x.Disk().Crash(nil, -1, 0)
			a := does(t, open(t, x.Disk(), 100), everything())
			if have := data(a.Records); have != "Acdbe" && have != "Acxdybe" {
				t.Errorf("behind a crash: %q", have)
			}
		}

		full, n := filled(t, conf(v, 2, 2, 7), 100, spread, api.DiskFull) // 8. the disk is full
		if a := does(t, full, everything()); !sameRecords(a.Records, risen(records(n, spread))) {
			t.Errorf("behind DiskFull: %+v", a)
		}

		near := func(i int) api.Key { return api.Key{uint32(i)} } // 9. many points near one another
		if v == api.Molhpe {
			x := create(t, conf(v, 1, 2, 400), 400)
			does(t, x, load(records(300, near)...))
		} else {
			filled(t, conf(v, 1, 2, 400), 400, near, api.DirectoryLimit)
		}

		for _, r := range does(t, s, everything()).Records { // 10. all deleted
			does(t, s, del(r.Key...))
		}
		if s.Pages() != pages {
			t.Errorf("nothing left: %d pages, want %d", s.Pages(), pages)
		}
	}
}

// The chapter's example.
func TestExample(t *testing.T) {
	for _, v := range variants() {
		s := create(t, conf(v, 1, 2, 10), 20)
		before := s.Disk().Image()
		for _, r := range []request.Request{plainly(request.Begin), put("x", 7), plainly(request.Abort)} {
			does(t, s, r)
		}
		if a := does(t, s, everything()); len(a.Records) != 0 || !slices.Equal(s.Disk().Image(), before) {
			t.Errorf("Begin, Put, Abort: %+v", a)
		}
	}
}

// spoilt is a disk with some pages that are not as they were.
func spoilt(r *rand.Rand, image []string, log int) []string {
	image = slices.Clone(image)
	for range 1 + r.Intn(4) {
		n := r.Intn(len(image))
		if r.Intn(3) > 0 {
			n = r.Intn(12)
		}
		q, _ := page.Open(image[n])
		body := []byte(q.Body + "x")
		switch r.Intn(6) {
		case 0:
			image[n] = image[r.Intn(len(image))]
		case 1:
			image[n], _ = page.Torn(image[n], r.Intn(257))
		case 2:
			image[n] = page.Blank()
		default: // another body, or another kind, with a sum that is right
			body[r.Intn(len(body))] ^= byte(1 << r.Intn(8))
			if s, e := page.Seal(api.Page{Kind: (q.Kind + r.Intn(20)/19) % 6, Number: n, Body: string(body[:len(q.Body)])}); e == api.OK {
				image[n] = s
			}
		}
	}
	return image
}

// P6: of any bytes Open and the checker come to an end; if they tell no error, there is a map, that answers as one does.
func TestAnyDisk(t *testing.T) {
	r := rand.New(rand.NewSource(1))
	told := map[api.Errno]int{}
	asked := func(image []string, log int) {
		d := of(t, image)
		s, e := store.Open(d, log)
		report, f := check.Check(image, log)
		l, g := check.Map(image, log)
		told[e]++
		if e != f || e != g || (s == nil) != (e != api.OK) {
			t.Fatalf("Open: %v, %d, Check: %d, Map: %d", s != nil, e, f, g)
		}
		if e != api.OK {
			return
		}
		if s.Config() != report.Config || len(l) != report.Records {
			t.Fatalf("Open: %+v, Check: %+v, Map: %d records", s.Config(), report, len(l))
		}
		m := model{dim: s.Config().Dim, now: plainOf(l)}
		both(t, s, &m, everything())
		makes := maker{Rand: r, dim: m.dim, most: 4}
		for range 12 {
			q := makes.any()
			if both(t, s, &m, q); m.closed {
				break
			}
			whole(t, d, log, s.Config(), m.now, shown(q))
		}
	}
	for range 700 {
		v := variants()[r.Intn(3)]
		s := create(t, conf(v, 1+r.Intn(2), 2+r.Intn(3), 40), 30)
		makes := maker{Rand: r, dim: s.Config().Dim, most: 12}
		s.Do(makes.request(request.Load))
		s.Disk().Fuse(r.Intn(60))
		s.Do(makes.request(request.Load))
		chance(r, s.Disk())
		asked(spoilt(r, s.Disk().Image(), 30), 30)
	}
	for range 300 {
		image := make([]string, 1+r.Intn(9))
		for i := range image {
			b := make([]byte, 256)
			r.Read(b)
			image[i] = string(b)
			if s, e := page.Seal(api.Page{Kind: r.Intn(6), Number: i, Body: string(b[:r.Intn(30)])}); e == api.OK && r.Intn(2) == 0 {
				image[i] = s
			}
		}
		asked(image, r.Intn(10))
	}
	if told[api.OK] < 50 || told[api.ErrForm] < 20 || told[api.ErrSum] < 50 || told[api.BadRequest] < 50 {
		t.Errorf("told: %v", told)
	}
}

// handed is a request of each kind that takes something, all of the same room.
func handed(room api.Key, at []int, records []api.Record) []request.Request {
	return []request.Request{
		{Do: request.Put, Key: room[:2], Data: "new"}, {Do: request.Load, Records: records}, {Do: request.Get, Key: room[:2]},
		{Do: request.Window, Box: api.Box{Low: room[:2], High: room[2:4]}}, {Do: request.Count, Box: api.Box{Low: room[:2], High: room[2:4]}},
		{Do: request.Partial, At: at[:1], Key: room[:1]}, {Do: request.Near, Key: room[:2], Most: 4}, {Do: request.Delete, Key: room[4:6]},
	}
}

// R5: what is handed in is neither changed nor kept, its spare room too.
func TestHandedIn(t *testing.T) {
	for _, v := range variants() {
		for _, begun := range []bool{false, true} {
			s := create(t, conf(v, 2, 2, 100), 100)
			does(t, s, load(rec("old", 5, 1<<31), rec("other", 1<<30, 6)))
			if begun {
				does(t, s, plainly(request.Begin))
			}
			m := model{dim: 2, now: plain{{5, 1 << 31}: "old", {1 << 30, 6}: "other"}}
			for i := range handed(make(api.Key, 6), make([]int, 1), nil) {
				room := api.Key{1, 2, 1 << 31, 1<<31 + 7, 5, 1 << 31}
				at := []int{1, 9, 9}
				records := []api.Record{{Key: room[2:4], Data: "x"}, {Key: room[3:5], Data: "y"}, {Key: room[:2], Data: "z"}}
				r := handed(room, at, records[:2])[i]
				before := handed(slices.Clone(room), slices.Clone(at), []api.Record{rec("x", 1<<31, 1<<31+7), rec("y", 1<<31+7, 5)})[i]
				both(t, s, &m, r)
				if !reflect.DeepEqual(before, r) || records[2].Data != "z" || !slices.Equal(room, api.Key{1, 2, 1 << 31, 1<<31 + 7, 5, 1 << 31}) || !slices.Equal(at, []int{1, 9, 9}) {
					t.Errorf("Do %s: what was handed in is not as it was", shown(r))
				}
				for n := range room {
					room[n] = 77
				}
				clear(records)
				clear(at)
				both(t, s, &m, everything())
			}
			if begun {
				does(t, s, plainly(request.Commit))
			}
			whole(t, s.Disk(), 100, s.Config(), m.now, "behind what was handed in")
		}
	}
}

// R5: what is answered is new memory, and no two lists of one answer share any.
func TestAnswersAreNew(t *testing.T) {
	for _, v := range variants() {
		for _, begun := range []bool{false, true} {
			s := create(t, conf(v, 2, 2, 100), 100)
			does(t, s, load(some(2, 20)...))
			if begun {
				does(t, s, plainly(request.Begin))
				does(t, s, put("x", 7, 7))
			}
			for _, r := range []request.Request{everything(), window(api.Key{0, 0}, api.Key{1 << 31, 1<<32 - 1}), {Do: request.Near, Key: api.Key{1 << 31, 5}, Most: 12}} {
				first, second := does(t, s, r).Records, does(t, s, r).Records
				for i := range first {
					_ = append(first[i].Key[:1], 7, 7)
					_ = append(first[i].Key, 7, 7, 7)
					first[i].Key[1] = second[i].Key[1]
				}
				if len(first) < 5 || !sameRecords(first, second) {
					t.Errorf("Do %s: %d records, that share room", shown(r), len(first))
				}
				for i := range first {
					clear(first[i].Key[:cap(first[i].Key)])
				}
				clear(first[:cap(first)])
				if a := does(t, s, r); !sameRecords(a.Records, second) {
					t.Errorf("Do %s: an answer is changed with one ahead of it", shown(r))
				}
			}
		}
	}
}

// R6: the same again is the same: each answer, and each page.
func TestTheSameAgain(t *testing.T) {
	type told struct {
		answer store.Answer
		e      api.Errno
		pages  int
		reads  [2]int
	}
	play := func(v int, seed int64) ([]told, []string) {
		r := rand.New(rand.NewSource(seed))
		s := create(t, conf(v, 2, 3, 60), 40)
		makes := maker{Rand: r, dim: 2, most: 10}
		var out []told
		for range 300 {
			a, e := s.Do(makes.any())
			x := told{answer: a, e: e, pages: s.Pages()}
			x.reads[0], x.reads[1] = s.Reads()
			out = append(out, x)
			if _, e := s.Do(get(1, 1)); e == api.BadRequest {
				s = open(t, s.Disk(), 40)
			}
		}
		return out, s.Disk().Image()
	}
	for _, v := range variants() {
		for seed := range int64(3) {
			first, pages := play(v, seed)
			second, others := play(v, seed)
			if !reflect.DeepEqual(first, second) || !slices.Equal(pages, others) {
				t.Errorf("variant %d: the same again is another", v)
			}
		}
	}
}

// R6: a store that is opened, and one that goes on, answer alike, and lay alike.
func TestOpenedGoesOn(t *testing.T) {
	r := rand.New(rand.NewSource(1))
	for _, v := range variants() {
		s := create(t, conf(v, 2, 3, 100), 60)
		makes := maker{Rand: r, dim: 2, most: 10}
		for range 60 {
			for range 5 {
				s.Do(makes.request(request.Put))
				s.Do(makes.request(request.Delete))
			}
			x := open(t, of(t, s.Disk().Image()), 60)
			for range 5 {
				q := makes.request(1 + r.Intn(8))
				a, e := s.Do(q)
				if b, f := x.Do(q); e != f || !same(a, b) || s.Pages() != x.Pages() || !slices.Equal(s.Disk().Image(), x.Disk().Image()) {
					t.Fatalf("Do %s: %+v, %d, and opened %+v, %d", shown(q), a, e, b, f)
				}
			}
		}
	}
}

// R1: stores of one disk, and a disk that is written to by others, do not panic.
func TestStrange(t *testing.T) {
	r := rand.New(rand.NewSource(1))
	for _, v := range variants() {
		s := create(t, conf(v, 1, 2, 30), 30)
		other := open(t, s.Disk(), 30)
		makes := maker{Rand: r, dim: 1, most: 10}
		for range 400 {
			s.Do(makes.any())
			other.Do(makes.any())
			switch d := s.Disk(); r.Intn(8) {
			case 0:
				d.Write(r.Intn(85), page.Blank())
			case 1:
				d.Fuse(r.Intn(30) - 1)
			case 2:
				chance(r, d)
			case 3:
				if x, e := store.Open(d, 30); e == api.OK {
					s, other = other, x
				}
			}
			check.Check(s.Disk().Image(), 30)
		}
	}
	var none *disk.Disk
	if s, e := store.Open(none, 30); s != nil || e != api.BadRequest {
		t.Errorf("Open of nil: %v, %d", s != nil, e)
	}
}
