package engine_test

import (
	"math"
	"math/rand"
	"slices"
	"strings"
	"testing"
	"unsafe"

	"cadastre/api"
	"cadastre/atlas"
	"cadastre/chain"
	"cadastre/engine"
	"cadastre/exdir"
	"cadastre/grid"
	"cadastre/key"
)

const (
	most = math.MaxUint32
	half = 1 << 31
)

func variants() []int { return []int{api.Grid, api.Excell, api.Molhpe} }

func rec(data string, k ...uint32) api.Record { return api.Record{Key: k, Data: data} }

func conf(variant int, dim int, cap int, pages int) api.Config {
	return api.Config{Variant: variant, Dim: dim, Cap: cap, Pages: pages}
}

func sameRecords(a []api.Record, b []api.Record) bool {
	return slices.EqualFunc(a, b, func(a api.Record, b api.Record) bool {
		return slices.Equal(a.Key, b.Key) && a.Data == b.Data
	})
}

func sameLists(a [][]api.Record, b [][]api.Record) bool {
	return slices.EqualFunc(a, b, sameRecords)
}

func same(a engine.State, b engine.State) bool {
	return a.Grid.Scale == b.Grid.Scale && slices.Equal(a.Grid.Cells, b.Grid.Cells) && sameLists(a.Grid.Buckets, b.Grid.Buckets) && a.Grid.Turn == b.Grid.Turn &&
		a.Excell.Depth == b.Excell.Depth && slices.Equal(a.Excell.Cells, b.Excell.Cells) && sameLists(a.Excell.Buckets, b.Excell.Buckets) &&
		a.Molhpe.Level == b.Molhpe.Level && a.Molhpe.Next == b.Molhpe.Next && sameLists(a.Molhpe.Chains, b.Molhpe.Chains)
}

// plain is what the three stores do.
type plain interface {
	Put(r api.Record) api.Errno
	Delete(k api.Key) api.Errno
	Get(k api.Key) (string, api.Errno)
	Window(b api.Box) ([]api.Record, api.Errno)
	Pages() int
	Reads() (int, int)
}

// bare is the store of a config, without a face, and what tells its state as an engine's.
func bare(c api.Config) (plain, func() engine.State) {
	switch c.Variant {
	case api.Grid:
		x, _ := grid.New(c)
		return x, func() engine.State { return engine.State{Grid: x.State()} }
	case api.Excell:
		x, _ := exdir.New(c)
		return x, func() engine.State { return engine.State{Excell: x.State()} }
	default:
		x, _ := chain.New(c)
		return x, func() engine.State { return engine.State{Molhpe: x.State()} }
	}
}

func create(t *testing.T, c api.Config) *engine.Engine {
	t.Helper()
	x, e := engine.New(c)
	if x == nil || e != api.OK {
		t.Fatalf("New(%v): %v, %d", c, x, e)
	}
	return x
}

func of(t *testing.T, c api.Config, s engine.State) *engine.Engine {
	t.Helper()
	x, e := engine.Of(c, s)
	if x == nil || e != api.OK {
		t.Fatalf("Of(%v, %v): %v, %d", c, s, x, e)
	}
	return x
}

func put(t *testing.T, x *engine.Engine, l ...api.Record) {
	t.Helper()
	for _, r := range l {
		if e := x.Put(r); e != api.OK {
			t.Fatalf("Put(%v): %d", r, e)
		}
	}
}

// holds expects of an engine a State, and no other records than these.
func holds(t *testing.T, x *engine.Engine, want engine.State, l ...api.Record) {
	t.Helper()
	if s := x.State(); !same(s, want) {
		t.Fatalf("State: %v, want %v", s, want)
	}
	if all := x.All(); !sameRecords(all, l) {
		t.Fatalf("All: %v, want %v", all, l)
	}
}

// some are records of two coordinates, far from one another and near, in their order; more than a bucket of two takes.
func some() []api.Record {
	return []api.Record{rec("a", 0, 0), rec("b", 0, half), rec("c", 5, 5), rec("d", half, 0), rec("", half, most), rec("f", 3<<30, 7), rec("g", most, 0), rec("h", most, most)}
}

// P20.1
func TestNew(t *testing.T) {
	for _, variant := range variants() {
		for dim := 1; dim <= 6; dim++ {
			for _, c := range []api.Config{conf(variant, dim, 2, 4), conf(variant, dim, 16, 999), conf(variant, dim, 5, 77)} {
				x := create(t, c)
				y, state := bare(c)
				holds(t, x, state())
				if x.Pages() != y.Pages() {
					t.Errorf("Pages: %d, want %d", x.Pages(), y.Pages())
				}
				if p, b := x.Reads(); p != 0 || b != 0 {
					t.Errorf("Reads: %d, %d", p, b)
				}
			}
		}
	}
	if s := create(t, conf(api.Grid, 2, 2, 9)).State(); s.Grid.Scale != "\x00\x00" || len(s.Grid.Cells) != 1 || len(s.Grid.Buckets) != 1 {
		t.Errorf("%v", s)
	}
	if s := create(t, conf(api.Excell, 2, 2, 9)).State(); len(s.Excell.Cells) != 1 || len(s.Excell.Buckets) != 1 {
		t.Errorf("%v", s)
	}
	if s := create(t, conf(api.Molhpe, 2, 2, 9)).State(); len(s.Molhpe.Chains) != 1 {
		t.Errorf("%v", s)
	}
}

// wrongConfigs may not be, each for one reason.
func wrongConfigs() []api.Config {
	l := []api.Config{{}}
	for _, n := range []int{math.MinInt, -1, 0, 4, 5, 99, 1<<32 + 1, math.MaxInt} {
		l = append(l, conf(n, 2, 4, 50))
	}
	for _, variant := range variants() {
		for _, n := range []int{math.MinInt, -1, 0, 7, math.MaxInt} {
			l = append(l, conf(variant, n, 4, 50))
		}
		for _, n := range []int{math.MinInt, -1, 0, 1, 17, math.MaxInt} {
			l = append(l, conf(variant, 2, n, 50))
		}
		for _, n := range []int{math.MinInt, -1, 0, 3, 1000, math.MaxInt} {
			l = append(l, conf(variant, 2, 4, n))
		}
	}
	return l
}

// P20.1: configs that may not be, of which a state is not asked (R2).
func TestConfigsThatMayNotBe(t *testing.T) {
	for _, c := range wrongConfigs() {
		if x, e := engine.New(c); x != nil || e != api.BadRequest {
			t.Errorf("New(%v): %v, %d", c, x, e)
		}
		for _, variant := range variants() {
			_, state := bare(conf(variant, 2, 4, 50))
			all := engine.State{Grid: grid.State{Turn: 1}, Excell: exdir.State{Depth: 1}, Molhpe: chain.State{Level: 1}}
			for _, s := range []engine.State{{}, state(), all} {
				if x, e := engine.Of(c, s); x != nil || e != api.BadRequest {
					t.Errorf("Of(%v, %v): %v, %d", c, s, x, e)
				}
			}
		}
	}
}

// P20.1: the store of a state that was told is one whose State it is, with its records; empty lists of the others are nothing in them.
func TestOf(t *testing.T) {
	for _, variant := range variants() {
		c := conf(variant, 2, 2, 50)
		y, state := bare(c)
		var l []api.Record
		for _, r := range append(some(), api.Record{}) {
			s, pages := state(), y.Pages()
			for _, s := range []engine.State{s, filled(s)} {
				x := of(t, c, s)
				holds(t, x, state(), l...)
				if x.Pages() != pages {
					t.Errorf("Pages: %d, want %d", x.Pages(), pages)
				}
				if p, b := x.Reads(); p != 0 || b != 0 {
					t.Errorf("Reads: %d, %d", p, b)
				}
			}
			if y.Put(r) == api.OK {
				l = append(l, r)
			}
		}
	}
}

// filled is a state with empty lists in the place of none.
func filled(s engine.State) engine.State {
	if s.Grid.Cells == nil {
		s.Grid.Cells, s.Grid.Buckets = []int{}, [][]api.Record{}
	}
	if s.Excell.Cells == nil {
		s.Excell.Cells, s.Excell.Buckets = []int{}, [][]api.Record{}
	}
	if s.Molhpe.Chains == nil {
		s.Molhpe.Chains = [][]api.Record{}
	}
	return s
}

// P20.1: something in a state of another variant, in each of its fields, or a whole one of it.
func TestStatesOfOtherVariants(t *testing.T) {
	for _, variant := range variants() {
		c := conf(variant, 2, 2, 50)
		_, state := bare(c)
		spoils := map[int][]func(s *engine.State){
			api.Grid: {
				func(s *engine.State) { s.Grid.Scale = "\x00" }, func(s *engine.State) { s.Grid.Cells = []int{0} }, func(s *engine.State) { s.Grid.Buckets = make([][]api.Record, 1) },
				func(s *engine.State) { s.Grid.Turn = 1 }, func(s *engine.State) { s.Grid.Turn = -1 },
			},
			api.Excell: {
				func(s *engine.State) { s.Excell.Depth = 1 }, func(s *engine.State) { s.Excell.Depth = -1 }, func(s *engine.State) { s.Excell.Cells = []int{0} },
				func(s *engine.State) { s.Excell.Buckets = [][]api.Record{{}} },
			},
			api.Molhpe: {
				func(s *engine.State) { s.Molhpe.Level = 1 }, func(s *engine.State) { s.Molhpe.Level = -1 }, func(s *engine.State) { s.Molhpe.Next = 1 }, func(s *engine.State) { s.Molhpe.Next = -1 },
				func(s *engine.State) { s.Molhpe.Chains = make([][]api.Record, 1) },
			},
		}
		for _, other := range variants() {
			if other == variant {
				continue
			}
			_, its := bare(conf(other, 2, 2, 50))
			whole := func(s *engine.State) {
				switch other {
				case api.Grid:
					s.Grid = its().Grid
				case api.Excell:
					s.Excell = its().Excell
				default:
					s.Molhpe = its().Molhpe
				}
			}
			for i, spoil := range append(spoils[other], whole) {
				s := state()
				of(t, c, s)
				spoil(&s)
				if x, e := engine.Of(c, s); x != nil || e != api.ErrForm {
					t.Errorf("variant %d, case %d of %d: %v, %d", variant, i, other, x, e)
				}
			}
			if x, e := engine.Of(c, its()); x != nil || e != api.ErrForm {
				t.Errorf("variant %d, a state of %d alone: %v, %d", variant, other, x, e)
			}
		}
	}
}

// P20.1: states that the store's Of refuses.
func TestStatesThatMayNotBe(t *testing.T) {
	for variant, spoils := range map[int][]func(s *engine.State){
		api.Grid:   {func(s *engine.State) { s.Grid.Turn = -1 }, func(s *engine.State) { s.Grid.Scale = "" }, func(s *engine.State) { s.Grid.Cells[0] = 9 }, func(s *engine.State) { s.Grid.Buckets[0][0].Data = strings.Repeat("x", 41) }},
		api.Excell: {func(s *engine.State) { s.Excell.Depth++ }, func(s *engine.State) { s.Excell.Cells[0] = 9 }, func(s *engine.State) { s.Excell.Buckets[0][0].Key = nil }, func(s *engine.State) { s.Excell.Buckets = s.Excell.Buckets[1:] }},
		api.Molhpe: {func(s *engine.State) { s.Molhpe.Level++ }, func(s *engine.State) { s.Molhpe.Next = -1 }, func(s *engine.State) { s.Molhpe.Chains[0] = nil; s.Molhpe.Chains = s.Molhpe.Chains[1:] }, func(s *engine.State) { slices.Reverse(s.Molhpe.Chains[0]) }},
	} {
		c := conf(variant, 2, 2, 50)
		y, state := bare(c)
		for _, r := range some() {
			y.Put(r)
		}
		for i, spoil := range append(spoils, func(s *engine.State) { *s = engine.State{} }) {
			s := state()
			of(t, c, s)
			spoil(&s)
			if x, e := engine.Of(c, s); x != nil || e != api.ErrForm {
				t.Errorf("variant %d, case %d: %v, %d", variant, i, x, e)
			}
		}
		// more pages than the config's
		for pages := 4; pages < y.Pages(); pages++ {
			if x, e := engine.Of(conf(variant, 2, 2, pages), state()); x != nil || e != api.ErrForm {
				t.Errorf("variant %d, %d pages: %v, %d", variant, pages, x, e)
			}
		}
		of(t, conf(variant, 2, 2, y.Pages()), state())
	}
}

// points tells points of one kind: far from one another, near one another, of few numbers; seldom one that may not be.
func points(r *rand.Rand, dim int, kind int) func() api.Key {
	return func() api.Key {
		k := make(api.Key, dim)
		if r.Intn(40) == 0 {
			k = make(api.Key, r.Intn(8))
		}
		for at := range k {
			switch kind {
			case 0:
				k[at] = r.Uint32()
			case 1:
				k[at] = r.Uint32() >> r.Intn(33)
			default:
				k[at] = []uint32{0, 1, half, half - 1, most}[r.Intn(5)]
			}
		}
		return k
	}
}

// box is one between two points, seldom one that may not be.
func box(r *rand.Rand, point func() api.Key) api.Box {
	b := api.Box{Low: point(), High: point()}
	for at := range min(len(b.Low), len(b.High)) {
		if b.Low[at] > b.High[at] && r.Intn(40) > 0 {
			b.Low[at], b.High[at] = b.High[at], b.Low[at]
		}
	}
	return b
}

// P20.1, P20.2: an engine does what its store does, call by call.
func TestEngineIsItsStore(t *testing.T) {
	for i, variant := range []int{1, 2, 3, 1, 2, 3, 1, 2, 3, 1, 2, 3, 1, 2, 3, 1, 2, 3} {
		r := rand.New(rand.NewSource(int64(i / 3)))
		dim := 1 + i/3
		c := conf(variant, dim, 2, []int{7, 30, 999}[i/3%3])
		point := points(r, dim, i%3)
		x := create(t, c)
		y, state := bare(c)
		var last []api.Key
		for range 200 {
			k := point()
			if len(last) > 0 && r.Intn(2) == 0 {
				k = last[r.Intn(len(last))]
			}
			last = append(last, k)
			record := api.Record{Key: k, Data: strings.Repeat("x", r.Intn(42))}
			if have, want := x.Put(record), y.Put(record); have != want {
				t.Fatalf("Put(%v): %d, want %d", record, have, want)
			}
			k = last[r.Intn(len(last))]
			have, e := x.Get(k)
			want, f := y.Get(k)
			if have != want || e != f {
				t.Fatalf("Get(%v): %q, %d, want %q, %d", k, have, e, want, f)
			}
			b := box(r, point)
			l, e := x.Window(b)
			m, f := y.Window(b)
			if !sameRecords(l, m) || e != f {
				t.Fatalf("Window(%v): %v, %d, want %v, %d", b, l, e, m, f)
			}
			if p, n := x.Reads(); r.Intn(3) == 0 {
				if q, o := y.Reads(); p != q || n != o {
					t.Fatalf("Reads: %d, %d, want %d, %d", p, n, q, o)
				}
			}
			if r.Intn(3) == 0 {
				if have, want := x.Delete(k), y.Delete(k); have != want {
					t.Fatalf("Delete(%v): %d, want %d", k, have, want)
				}
			}
			if !same(x.State(), state()) || x.Pages() != y.Pages() {
				t.Fatalf("%v, %d, want %v, %d", x.State(), x.Pages(), state(), y.Pages())
			}
		}
	}
}

// P20.2: how many a Window tells, or its error.
func TestCount(t *testing.T) {
	for _, variant := range variants() {
		x := create(t, conf(variant, 2, 2, 50))
		put(t, x, some()...)
		for _, y := range []struct {
			b api.Box
			n int
			e api.Errno
		}{
			{key.Whole(2), 8, api.OK}, {api.Box{Low: api.Key{0, 0}, High: api.Key{half, 5}}, 3, api.OK}, {api.Box{Low: api.Key{half, 0}, High: api.Key{most, most}}, 5, api.OK}, {api.Box{Low: api.Key{1, 1}, High: api.Key{4, 4}}, 0, api.OK}, {api.Box{Low: api.Key{5, 5}, High: api.Key{5, 5}}, 1, api.OK},
			{api.Box{}, 0, api.BadRequest}, {key.Whole(1), 0, api.BadRequest}, {key.Whole(3), 0, api.BadRequest}, {api.Box{Low: api.Key{5, 5}, High: api.Key{5, 4}}, 0, api.BadRequest}, {api.Box{Low: api.Key{0, 0}}, 0, api.BadRequest}, {api.Box{Low: api.Key{0, 0}, High: api.Key{most}}, 0, api.BadRequest},
		} {
			if n, e := x.Count(y.b); n != y.n || e != y.e {
				t.Errorf("variant %d: Count(%v): %d, %d, want %d, %d", variant, y.b, n, e, y.n, y.e)
			}
		}
	}
}

// P20.3: a Load of records that may be.
func TestLoad(t *testing.T) {
	for _, variant := range variants() {
		c := conf(variant, 2, 4, 50)
		x := create(t, c)
		y, state := bare(c)
		for _, l := range [][]api.Record{nil, {}} {
			if n, e := x.Load(l); n != 0 || e != api.OK {
				t.Errorf("Load of nothing: %d, %d", n, e)
			}
		}
		holds(t, x, state())
		x.Get(api.Key{0, 0})
		pages, buckets := x.Reads()
		l := some()
		r := rand.New(rand.NewSource(1))
		r.Shuffle(len(l), func(i int, j int) { l[i], l[j] = l[j], l[i] })
		if n, e := x.Load(l); n != len(l) || e != api.OK {
			t.Errorf("Load: %d, %d", n, e)
		}
		for _, r := range l {
			y.Put(r)
		}
		holds(t, x, state(), some()...)
		if p, b := x.Reads(); p != pages || b != buckets || pages+buckets == 0 {
			t.Errorf("Reads: %d, %d, ahead of the Load %d, %d", p, b, pages, buckets)
		}
		// the same point twice, and one that is there: the later one
		if n, e := x.Load([]api.Record{rec("1", 7, 7), rec("A", 0, 0), rec("2", 7, 7)}); n != 3 || e != api.OK {
			t.Errorf("Load: %d, %d", n, e)
		}
		for k, want := range map[[2]uint32]string{{7, 7}: "2", {0, 0}: "A"} {
			if s, e := x.Get(k[:]); s != want || e != api.OK {
				t.Errorf("Get(%v): %q, %d", k, s, e)
			}
		}
		if n, _ := x.Count(key.Whole(2)); n != 9 {
			t.Errorf("Count: %d", n)
		}
	}
}

// refusesLoad expects an error at a place, and nothing changed.
func refusesLoad(t *testing.T, x *engine.Engine, l []api.Record, place int, want api.Errno) {
	t.Helper()
	before, all, pages := x.State(), x.All(), x.Pages()
	read, reads := x.Reads()
	if n, e := x.Load(l); n != place || e != want {
		t.Errorf("Load(%v): %d, %d, want %d, %d", l, n, e, place, want)
	}
	holds(t, x, before, all...)
	if x.Pages() != pages {
		t.Errorf("Pages: %d, want %d", x.Pages(), pages)
	}
	if p, b := x.Reads(); p != read || b != reads {
		t.Errorf("Reads: %d, %d, want %d, %d", p, b, read, reads)
	}
}

// P20.3: a record that tells an error, at the first, a middle and the last place; example 1.
func TestLoadThatIsRefused(t *testing.T) {
	for _, variant := range variants() {
		x := create(t, conf(variant, 1, 2, 50))
		refusesLoad(t, x, []api.Record{rec("", 1), rec(strings.Repeat("x", 41), 2)}, 1, api.BadRequest)
		x = create(t, conf(variant, 2, 4, 50))
		for range 2 {
			for _, wrong := range []api.Record{{}, rec("", 1), rec("", 1, 2, 3), rec(strings.Repeat("x", 41), 1, 2)} {
				for place := range 9 {
					l := slices.Insert(some(), place, wrong)
					refusesLoad(t, x, l, place, api.BadRequest)
					refusesLoad(t, x, append(l, wrong), place, api.BadRequest)
				}
			}
			put(t, x, rec("there", 5, 5), rec("too", 9, 9))
			x.Get(api.Key{5, 5})
		}
	}
}

// P20.3: a Load for which there is no room; all but the last record might have been put.
func TestLoadOfTooMany(t *testing.T) {
	var l []api.Record
	for i := range uint32(40) {
		l = append(l, rec("", i<<26, i*77777))
	}
	for _, variant := range variants() {
		c := conf(variant, 2, 2, 12)
		y, state := bare(c)
		place := 0
		for y.Put(l[place]) == api.OK {
			place++
		}
		x := create(t, c)
		refusesLoad(t, x, l, place, api.DiskFull)
		put(t, x, rec("there", 3, 3))
		if n, e := x.Load(l); e != api.DiskFull || n > place {
			t.Errorf("Load: %d, %d", n, e)
		}
		if all := x.All(); len(all) != 1 {
			t.Errorf("%v", all)
		}
		x = create(t, c)
		if n, e := x.Load(l[:place]); n != place || e != api.OK {
			t.Errorf("Load: %d, %d", n, e)
		}
		holds(t, x, state(), l[:place]...)
	}
	// near one another
	near := []api.Record{rec("a", 1), rec("b", 2), rec("c", 3)}
	x := create(t, conf(api.Excell, 1, 2, 999))
	refusesLoad(t, x, near, 2, api.DirectoryLimit)
	for _, variant := range []int{api.Grid, api.Molhpe} {
		x := create(t, conf(variant, 1, 2, 999))
		if n, e := x.Load(near); n != 3 || e != api.OK {
			t.Errorf("Load: %d, %d", n, e)
		}
	}
}

// P20.1: All counts nothing in Reads; a Count does what a Window does.
func TestAllCountsNothing(t *testing.T) {
	for _, variant := range variants() {
		x := create(t, conf(variant, 2, 2, 50))
		for i, r := range some() {
			put(t, x, r)
			if l := x.All(); !sameRecords(l, some()[:i+1]) {
				t.Errorf("All: %v", l)
			}
		}
		x.State()
		x.Pages()
		x.Copy().Get(api.Key{0, 0})
		if p, b := x.Reads(); p != 0 || b != 0 {
			t.Errorf("Reads: %d, %d", p, b)
		}
		x.Window(key.Whole(2))
		pages, buckets := x.Reads()
		x.All()
		if p, b := x.Reads(); p != pages || b != buckets || buckets == 0 {
			t.Errorf("Reads: %d, %d, ahead of All %d, %d", p, b, pages, buckets)
		}
		x.Count(key.Whole(2))
		if p, b := x.Reads(); p != 2*pages || b != 2*buckets {
			t.Errorf("Reads: %d, %d, of a Window %d, %d", p, b, pages, buckets)
		}
	}
}

// P20.1: a copy is like it, and goes its own way.
func TestCopy(t *testing.T) {
	for _, variant := range variants() {
		x := create(t, conf(variant, 2, 4, 50))
		put(t, x, some()...)
		x.Get(api.Key{0, 0})
		x.Window(key.Whole(2))
		pages, buckets := x.Reads()
		before := x.State()
		other := x.Copy()
		holds(t, other, before, some()...)
		if p, b := other.Reads(); p != pages || b != buckets {
			t.Errorf("Reads: %d, %d, want %d, %d", p, b, pages, buckets)
		}
		for _, r := range some() {
			if e := other.Delete(r.Key); e != api.OK {
				t.Errorf("Delete: %d", e)
			}
		}
		put(t, other, rec("other", 0, 0))
		other.Window(key.Whole(2))
		holds(t, x, before, some()...)
		if p, b := x.Reads(); p != pages || b != buckets {
			t.Errorf("Reads: %d, %d, want %d, %d", p, b, pages, buckets)
		}
		after := other.State()
		if n, e := x.Load([]api.Record{rec("this", 0, 0), rec("", 7, 7), rec("", 1<<28, 8), rec("", 9, 1<<28)}); n != 4 || e != api.OK {
			t.Errorf("Load: %d, %d", n, e)
		}
		holds(t, other, after, rec("other", 0, 0))
		if s, e := other.Get(api.Key{7, 7}); s != "" || e != api.NotFound {
			t.Errorf("Get: %q, %d", s, e)
		}
	}
}

// R1, P20.1: methods of nil, and of an engine that was not made.
func TestNil(t *testing.T) {
	for _, x := range []*engine.Engine{nil, {}} {
		for dim := range 8 {
			r := api.Record{Key: make(api.Key, dim)}
			if e := x.Put(r); e != api.BadRequest {
				t.Errorf("Put: %d", e)
			}
			if e := x.Delete(r.Key); e != api.BadRequest {
				t.Errorf("Delete: %d", e)
			}
			if s, e := x.Get(r.Key); s != "" || e != api.BadRequest {
				t.Errorf("Get: %q, %d", s, e)
			}
			if l, e := x.Window(key.Whole(dim)); len(l) != 0 || e != api.BadRequest {
				t.Errorf("Window: %v, %d", l, e)
			}
			if n, e := x.Count(key.Whole(dim)); n != 0 || e != api.BadRequest {
				t.Errorf("Count: %d, %d", n, e)
			}
			for _, l := range [][]api.Record{nil, {}, {r}, {r, r}} {
				if n, e := x.Load(l); n != 0 || e != api.BadRequest {
					t.Errorf("Load: %d, %d", n, e)
				}
			}
		}
		if s := x.State(); !same(s, engine.State{}) || len(x.All()) != 0 || x.Pages() != 0 || x.Copy() != nil {
			t.Errorf("%v, %v, %d, %v", s, x.All(), x.Pages(), x.Copy())
		}
		if p, b := x.Reads(); p != 0 || b != 0 {
			t.Errorf("Reads: %d, %d", p, b)
		}
	}
}

// putAll puts a record into all engines and the atlas; or, if there is no room for it in one of them, into none.
func putAll(t *testing.T, all []*engine.Engine, a *atlas.Atlas, r api.Record) {
	t.Helper()
	want := a.Copy().Put(r)
	next := make([]*engine.Engine, len(all))
	for i, x := range all {
		next[i] = x.Copy()
		switch e := next[i].Put(r); {
		case e == api.DiskFull || e == api.DirectoryLimit:
			if want != api.OK {
				t.Fatalf("engine %d: Put(%v): %d, want %d", i, r, e, want)
			}
			return
		case e != want:
			t.Fatalf("engine %d: Put(%v): %d, want %d", i, r, e, want)
		}
	}
	copy(all, next)
	a.Put(r)
}

func deleteAll(t *testing.T, all []*engine.Engine, a *atlas.Atlas, k api.Key) {
	t.Helper()
	want := a.Delete(k)
	for i, x := range all {
		if e := x.Delete(k); e != want {
			t.Fatalf("engine %d: Delete(%v): %d, want %d", i, k, e, want)
		}
	}
}

// P20.4, P3: any two variants answer alike, and as an atlas does, call by call.
func TestVariantsAnswerAlike(t *testing.T) {
	for seed := range int64(36) {
		r := rand.New(rand.NewSource(seed))
		dim := 1 + int(seed)%6
		point := points(r, dim, int(seed)/6%3)
		c := conf(0, dim, []int{2, 3, 16}[r.Intn(3)], []int{12, 999}[r.Intn(2)])
		a, _ := atlas.New(dim)
		var all []*engine.Engine
		for _, variant := range variants() {
			c.Variant = variant
			all = append(all, create(t, c))
		}
		for step := range 250 {
			k := point()
			if l := a.All(); len(l) > 0 && r.Intn(3) == 0 {
				k = l[r.Intn(len(l))].Key
			}
			if r.Intn(10) < []int{9, 5, 2, 8, 1}[step/50] {
				putAll(t, all, a, api.Record{Key: k, Data: strings.Repeat("x", r.Intn(42))})
			} else {
				deleteAll(t, all, a, k)
			}
			alike(t, all, a, k, box(r, point))
		}
	}
}

// alike expects of all engines what an atlas answers.
func alike(t *testing.T, all []*engine.Engine, a *atlas.Atlas, k api.Key, b api.Box) {
	t.Helper()
	data, e := a.Get(k)
	in, f := a.Window(b)
	n, g := a.Count(b)
	for i, x := range all {
		if have, he := x.Get(k); have != data || he != e {
			t.Fatalf("engine %d: Get(%v): %q, %d, want %q, %d", i, k, have, he, data, e)
		}
		if have, hf := x.Window(b); !sameRecords(have, in) || hf != f {
			t.Fatalf("engine %d: Window(%v): %v, %d, want %v, %d", i, b, have, hf, in, f)
		}
		if have, hg := x.Count(b); have != n || hg != g {
			t.Fatalf("engine %d: Count(%v): %d, %d, want %d, %d", i, b, have, hg, n, g)
		}
		if have := x.All(); !sameRecords(have, a.All()) {
			t.Fatalf("engine %d: All: %v, want %v", i, have, a.All())
		}
	}
}

// P20.4: Loads, of which some have a record that may not be.
func TestLoadsAreAlike(t *testing.T) {
	for seed := range int64(60) {
		r := rand.New(rand.NewSource(seed))
		dim := 1 + int(seed)%6
		point := points(r, dim, 0)
		a, _ := atlas.New(dim)
		var all []*engine.Engine
		for _, variant := range variants() {
			all = append(all, create(t, conf(variant, dim, 8, 999)))
		}
		for range 12 {
			var l []api.Record
			for range r.Intn(40) {
				l = append(l, api.Record{Key: point(), Data: strings.Repeat("x", r.Intn(41))})
			}
			n, want := len(l), api.OK
			if i := slices.IndexFunc(l, func(r api.Record) bool { return atlas.Check(r, dim) != api.OK }); i >= 0 {
				n, want = i, api.BadRequest
			} else {
				for _, r := range l {
					a.Put(r)
				}
			}
			for i, x := range all {
				if have, e := x.Load(l); have != n || e != want {
					t.Fatalf("engine %d: Load(%v): %d, %d, want %d, %d", i, l, have, e, n, want)
				}
			}
			alike(t, all, a, point(), box(r, point))
		}
	}
}

// spoil expects that records share no memory with one another; then it spoils them, and their spare room.
func spoil(t *testing.T, l []api.Record, given string) {
	t.Helper()
	from := uintptr(unsafe.Pointer(unsafe.StringData(given)))
	for i, r := range l {
		if at := uintptr(unsafe.Pointer(unsafe.StringData(r.Data))); r.Data != "" && at >= from && at < from+uintptr(len(given)) {
			t.Errorf("the text %q is shared", r.Data)
		}
		for at := range r.Key[:cap(r.Key)] {
			r.Key[:cap(r.Key)][at] = 12345
		}
		if i+1 < len(l) && len(l[i+1].Key) > 0 && l[i+1].Key[0] == 12345 {
			t.Errorf("two records share their memory")
		}
	}
	clear(l[:cap(l)])
}

func spoilLists(t *testing.T, l [][]api.Record, given string) {
	t.Helper()
	for _, records := range l {
		spoil(t, records, given)
	}
	clear(l[:cap(l)])
}

func spoilState(t *testing.T, s engine.State, given string) {
	t.Helper()
	clear(s.Grid.Cells[:cap(s.Grid.Cells)])
	clear(s.Excell.Cells[:cap(s.Excell.Cells)])
	spoilLists(t, s.Grid.Buckets, given)
	spoilLists(t, s.Excell.Buckets, given)
	spoilLists(t, s.Molhpe.Chains, given)
}

// R5: what is handed in is not changed and not kept; what is told is new.
func TestNothingIsShared(t *testing.T) {
	text := "abcdefghij"
	given := func() []api.Record {
		l := some()
		for i := range l {
			l[i].Data = text[i : i+1]
		}
		return l
	}
	for _, variant := range variants() {
		c := conf(variant, 2, 4, 50)
		x := create(t, c)
		l := given()
		if n, e := x.Load(l); n != len(l) || e != api.OK || !sameRecords(l, given()) {
			t.Errorf("Load: %d, %d, %v", n, e, l)
		}
		spoil(t, l, "")
		for range 2 {
			want := x.State()
			spoilState(t, x.State(), text)
			spoil(t, x.All(), text)
			b := key.Whole(2)
			in, _ := x.Window(b)
			spoil(t, in, text)
			x.Count(b)
			if !slices.Equal(b.Low, key.Whole(2).Low) || !slices.Equal(b.High, key.Whole(2).High) {
				t.Errorf("a box was changed: %v", b)
			}
			holds(t, x, want, given()...)
			s := x.State()
			x = of(t, c, s)
			if !same(s, want) {
				t.Errorf("Of has changed %v to %v", want, s)
			}
			spoilState(t, s, "")
			holds(t, x, want, given()...)
		}
		r := rec(text[:2], 1, 2)
		put(t, x, r)
		k := api.Key{1, 2}
		spoil(t, []api.Record{r}, "")
		if s, e := x.Get(k); s != text[:2] || e != api.OK || !slices.Equal(k, api.Key{1, 2}) {
			t.Errorf("Get(%v): %q, %d", k, s, e)
		}
		if e := x.Delete(k); e != api.OK || !slices.Equal(k, api.Key{1, 2}) {
			t.Errorf("Delete(%v): %d", k, e)
		}
		if all := x.All(); !sameRecords(all, given()) {
			t.Errorf("All: %v", all)
		}
	}
}

// P3, R6: the same calls again, the same answers.
func TestAgain(t *testing.T) {
	for _, variant := range variants() {
		c := conf(variant, 2, 2, 50)
		x, y := create(t, c), create(t, c)
		for _, z := range []*engine.Engine{x, y} {
			put(t, z, some()...)
			z.Delete(api.Key{5, 5})
			z.Load([]api.Record{rec("", 7, 8), rec("", 8, 7), rec("", half, half)})
			z.Window(key.Whole(2))
		}
		holds(t, y, x.State(), x.All()...)
		p, b := x.Reads()
		if q, n := y.Reads(); p != q || b != n {
			t.Errorf("Reads: %d, %d, again %d, %d", p, b, q, n)
		}
	}
}
