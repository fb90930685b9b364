package chain_test

import (
	"math"
	"math/rand"
	"slices"
	"strconv"
	"strings"
	"testing"
	"unsafe"

	"cadastre/api"
	"cadastre/atlas"
	"cadastre/bucket"
	"cadastre/chain"
	"cadastre/key"
	"cadastre/linear"
)

const (
	most    = math.MaxUint32
	half    = 1 << 31 // the first number whose highest bit is 1
	quarter = 1 << 30
	eighth  = 1 << 29
)

func rec(data string, k ...uint32) api.Record { return api.Record{Key: k, Data: data} }

func conf(dim int, cap int, pages int) api.Config {
	return api.Config{Variant: api.Molhpe, Dim: dim, Cap: cap, Pages: pages}
}

func sameRecords(a []api.Record, b []api.Record) bool {
	return slices.EqualFunc(a, b, func(a api.Record, b api.Record) bool {
		return slices.Equal(a.Key, b.Key) && a.Data == b.Data
	})
}

func same(a chain.State, b chain.State) bool {
	return a.Level == b.Level && a.Next == b.Next && slices.EqualFunc(a.Chains, b.Chains, sameRecords)
}

func copied(l []api.Record) []api.Record {
	out := make([]api.Record, len(l))
	for i, r := range l {
		out[i] = api.Record{Key: slices.Clone(r.Key), Data: strings.Clone(r.Data)}
	}
	return out
}

func copiedState(s chain.State) chain.State {
	out := chain.State{Level: s.Level, Next: s.Next}
	for _, l := range s.Chains {
		out.Chains = append(out.Chains, copied(l))
	}
	return out
}

// chainOf is that of a point: its cell's, or one of the two that the cell is.
func chainOf(s chain.State, k api.Key) int {
	if n, _ := key.Bits(k, s.Level); n >= s.Next {
		return n + s.Next
	}
	n, _ := key.Bits(k, s.Level+1)
	return n
}

// wrong is why a state may not be, word by word as the document says it; nothing, if it may.
func wrong(c api.Config, s chain.State) string {
	if s.Level < 0 || s.Level > 10 {
		return "Level"
	}
	if s.Next < 0 || s.Next >= 1<<s.Level {
		return "Next"
	}
	if len(s.Chains) != 1<<s.Level+s.Next {
		return "how many chains"
	}
	for n, l := range s.Chains {
		for i, r := range l {
			if len(r.Data) > 40 || len(r.Key) != c.Dim {
				return "a record"
			}
			if i > 0 && key.Compare(l[i-1].Key, r.Key) >= 0 {
				return "the order of records"
			}
			if chainOf(s, r.Key) != n {
				return "where a record is"
			}
		}
	}
	return ""
}

// sizes are how many records each piece has into which a list is to be cut.
func sizes(l []api.Record, cap int) []int {
	out, bytes := []int{0}, 1
	for _, r := range l {
		size, last := 4*len(r.Key)+1+len(r.Data), len(out)-1
		if out[last] > 0 && (out[last] >= cap || bytes+size > 230) {
			out, bytes = append(out, 0), 1
			last++
		}
		out[last]++
		bytes += size
	}
	return out
}

func pagesOf(c api.Config, s chain.State) int {
	n := 1
	for _, l := range s.Chains {
		n += len(sizes(l, c.Cap))
	}
	return n
}

// blank is the State of a new store.
func blank() chain.State { return chain.State{Chains: [][]api.Record{nil}} }

// state is one that has these records, each in its chain.
func state(level int, next int, l ...api.Record) chain.State {
	s := chain.State{Level: level, Next: next, Chains: make([][]api.Record, 1<<level+next)}
	for _, r := range rising(l) {
		n := chainOf(s, r.Key)
		s.Chains[n] = append(s.Chains[n], r)
	}
	return s
}

// rising are records in their order, of those of one point the first one alone.
func rising(l []api.Record) []api.Record {
	out := slices.Clone(l)
	slices.SortStableFunc(out, func(a api.Record, b api.Record) int { return key.Compare(a.Key, b.Key) })
	return slices.CompactFunc(out, func(a api.Record, b api.Record) bool { return key.Compare(a.Key, b.Key) == 0 })
}

func create(t *testing.T, c api.Config) *chain.Store {
	t.Helper()
	x, e := chain.New(c)
	if x == nil || e != api.OK {
		t.Fatalf("New(%v): %v, %d", c, x, e)
	}
	return x
}

func of(t *testing.T, c api.Config, s chain.State) *chain.Store {
	t.Helper()
	x, e := chain.Of(c, s)
	if x == nil || e != api.OK {
		t.Fatalf("Of(%v, %v): %v, %d (%s)", c, s, x, e, wrong(c, s))
	}
	return x
}

func put(t *testing.T, x *chain.Store, l ...api.Record) {
	t.Helper()
	for _, r := range l {
		if e := x.Put(r); e != api.OK {
			t.Fatalf("Put(%v): %d", r, e)
		}
	}
}

func del(t *testing.T, x *chain.Store, l ...api.Key) {
	t.Helper()
	for _, k := range l {
		if e := x.Delete(k); e != api.OK {
			t.Fatalf("Delete(%v): %d", k, e)
		}
	}
}

// holds expects of a store a State, that may be, and its pages.
func holds(t *testing.T, x *chain.Store, c api.Config, want chain.State) {
	t.Helper()
	s := x.State()
	if !same(s, want) {
		t.Fatalf("State: %v, want %v", s, want)
	}
	if why := wrong(c, s); why != "" {
		t.Fatalf("a State that may not be (%s): %v", why, s)
	}
	if n := x.Pages(); n != pagesOf(c, s) || n > c.Pages {
		t.Fatalf("Pages: %d, want %d, at most %d", n, pagesOf(c, s), c.Pages)
	}
}

// row are so many records of one coordinate, one behind the other.
func row(n int, from uint32) []api.Record {
	var l []api.Record
	for i := range n {
		l = append(l, rec(strconv.Itoa(i), from+uint32(i)))
	}
	return l
}

// P19.1
func TestNew(t *testing.T) {
	for dim := 1; dim <= 6; dim++ {
		for _, cap := range []int{2, 3, 15, 16} {
			for _, pages := range []int{4, 5, 998, 999} {
				for _, variant := range []int{0, 1, 2, 3, -1, 99} {
					c := conf(dim, cap, pages)
					c.Variant = variant
					x := create(t, c)
					holds(t, x, c, blank())
					if n := x.Pages(); n != 2 {
						t.Errorf("Pages: %d", n)
					}
					holds(t, of(t, c, blank()), c, blank())
				}
			}
		}
	}
}

// P19.1: configs that may not be, each for one reason; of them a state is not asked (R2).
func TestConfigsThatMayNotBe(t *testing.T) {
	var l []api.Config
	for _, n := range []int{math.MinInt, -1, 0, 7, 100, 1<<32 + 1, math.MaxInt} {
		l = append(l, conf(n, 4, 50))
	}
	for _, n := range []int{math.MinInt, -2, 0, 1, 17, 1<<32 + 4, math.MaxInt} {
		l = append(l, conf(2, n, 50))
	}
	for _, n := range []int{math.MinInt, -50, 0, 3, 1000, 1<<32 + 50, math.MaxInt} {
		l = append(l, conf(2, 4, n))
	}
	for _, c := range append(l, api.Config{}) {
		if x, e := chain.New(c); x != nil || e != api.BadRequest {
			t.Errorf("New(%v): %v, %d", c, x, e)
		}
		for _, s := range []chain.State{blank(), {}, {Level: -1}} {
			if x, e := chain.Of(c, s); x != nil || e != api.BadRequest {
				t.Errorf("Of(%v, %v): %v, %d", c, s, x, e)
			}
		}
	}
}

// fifth is a state of two coordinates: of the four cells of level 2 the first one is split.
func fifth() chain.State {
	return chain.State{Level: 2, Next: 1, Chains: [][]api.Record{{rec("a", 0, 0), rec("b", 5, 5), rec("c", 5, 6)}, {rec("d", quarter, half-1)}, nil, {rec("e", half, 0), rec("f", most, half-1)}, {rec("g", half, half)}}}
}

// P19.1: the store of a state that was told is one whose State it is, and has its records.
func TestOf(t *testing.T) {
	for i, x := range []struct {
		c api.Config
		s chain.State
	}{
		{conf(2, 2, 7), fifth()}, {conf(2, 16, 999), fifth()}, {conf(1, 2, 999), blank()}, {conf(3, 2, 999), state(9, 486)}, {conf(6, 16, 513), state(9, 0)}, {conf(1, 2, 4), state(1, 1)},
		{conf(1, 2, 4), state(0, 0, row(6, 7)...)}, {conf(1, 3, 5), state(1, 0, row(9, half-3)...)}, {conf(1, 16, 999), state(0, 0, row(998*16, most-998*16)...)},
		{conf(2, 16, 4), state(1, 0, rec("", 0, most), rec(strings.Repeat("x", 40), half-1, 0), rec("y", half, 0))},
		{conf(6, 2, 999), state(4, 3, rec("x", 0, 0, 0, 0, 0, most), rec("y", most, most, most, most, most, most))},
	} {
		before := copiedState(x.s)
		have := of(t, x.c, x.s)
		holds(t, have, x.c, before)
		if !same(x.s, before) {
			t.Errorf("case %d: Of has changed %v to %v", i, before, x.s)
		}
		if pages, buckets := have.Reads(); pages != 0 || buckets != 0 {
			t.Errorf("case %d: Reads: %d, %d", i, pages, buckets)
		}
		for _, l := range before.Chains {
			for n, r := range l[:min(len(l), 100)] {
				if data, e := have.Get(r.Key); data != r.Data || e != api.OK {
					t.Errorf("case %d: Get of number %d, %v: %q, %d", i, n, r.Key, data, e)
				}
			}
		}
	}
}

// refusesOf expects that a state may not be, and that it may without one change.
func refusesOf(t *testing.T, c api.Config, s chain.State, why string, change func(s *chain.State)) {
	t.Helper()
	of(t, c, s)
	s = copiedState(s)
	change(&s)
	if have := wrong(c, s); have != why {
		t.Errorf("%v: %q, want %q", s, have, why)
	}
	if x, e := chain.Of(c, s); x != nil || e != api.ErrForm {
		t.Errorf("Of(%v, %v): %v, %d", c, s, x, e)
	}
}

// P19.1: levels and numbers of chains that may not be, each for one reason.
func TestLevelsThatMayNotBe(t *testing.T) {
	c := conf(2, 2, 99)
	for _, level := range []int{math.MinInt, -2, -1, 11, 12, 62, 64, 66, 1<<32 + 2, math.MaxInt} {
		refusesOf(t, c, fifth(), "Level", func(s *chain.State) { s.Level = level })
	}
	for _, next := range []int{math.MinInt, -1, 4, 5, 1<<32 + 1, math.MaxInt} {
		refusesOf(t, c, fifth(), "Next", func(s *chain.State) { s.Next = next })
	}
	refusesOf(t, c, blank(), "Next", func(s *chain.State) { *s = chain.State{Next: 1, Chains: make([][]api.Record, 2)} })
	for _, level := range []int{1, 3, 10} {
		refusesOf(t, c, fifth(), "how many chains", func(s *chain.State) { s.Level = level })
	}
	for _, next := range []int{0, 2, 3} {
		refusesOf(t, c, fifth(), "how many chains", func(s *chain.State) { s.Next = next })
	}
	for n := range 5 {
		refusesOf(t, c, fifth(), "how many chains", func(s *chain.State) { s.Chains = s.Chains[:n] })
	}
	for _, n := range []int{1, 2, 5000} {
		refusesOf(t, c, fifth(), "how many chains", func(s *chain.State) { s.Chains = append(s.Chains, make([][]api.Record, n)...) })
	}
	refusesOf(t, c, blank(), "how many chains", func(s *chain.State) { *s = chain.State{} })
	refusesOf(t, c, blank(), "how many chains", func(s *chain.State) { s.Chains = append(s.Chains, nil) })
}

// P19.1: all levels, nexts and numbers of chains that are small.
func TestSmallStates(t *testing.T) {
	c := conf(1, 2, 99)
	for level := -2; level < 5; level++ {
		for next := -2; next < 20; next++ {
			for chains := range 36 {
				s := chain.State{Level: level, Next: next, Chains: make([][]api.Record, chains)}
				want := api.ErrForm
				if wrong(c, s) == "" {
					want = api.OK
				}
				if x, e := chain.Of(c, s); e != want || (x == nil) != (e != api.OK) {
					t.Fatalf("Of(%v): %v, %d, want %d", s, x, e, want)
				}
			}
		}
	}
}

// P19.1: chains that may not be, each for one reason.
func TestChainsThatMayNotBe(t *testing.T) {
	c := conf(2, 2, 99)
	for why, chains := range map[string][][]api.Record{
		"a record":             {{rec("", 0)}, {rec("", 0, 0, 0)}, {rec("")}, {rec(strings.Repeat("x", 41), 0, 0)}, {rec("", 0, 0), rec("", 0, 1), rec("", 1)}, {rec("", 0, 0), rec(strings.Repeat("x", 41), 0, 1), rec("", 1, 1)}},
		"the order of records": {{rec("", 1, 0), rec("", 0, 9)}, {rec("a", 1, 0), rec("b", 1, 0)}, {rec("a", 1, 0), rec("a", 1, 0)}, {rec("", 0, 0), rec("", 1, 0), rec("", 2, 5), rec("", 2, 4)}},
		"where a record is":    {{rec("", half, 0)}, {rec("", 0, 0), rec("", 0, half)}, {rec("", most, most)}, {rec("", quarter, 0)}, {rec("", 0, 0), rec("", 0, half), rec("", 0, half+1)}},
	} {
		for _, l := range chains {
			refusesOf(t, c, fifth(), why, func(s *chain.State) { s.Chains[0] = l })
		}
	}
	for n, l := range [][]api.Record{{rec("", half, 0)}, {rec("", 0, 0)}, {rec("", 0, 0)}, {rec("", half, half)}, {rec("", half, half-1)}} {
		refusesOf(t, c, fifth(), "where a record is", func(s *chain.State) { s.Chains[n] = l })
	}
	for n := 1; n < 5; n++ {
		refusesOf(t, c, fifth(), "where a record is", func(s *chain.State) { s.Chains[0], s.Chains[n] = s.Chains[n], s.Chains[0] })
	}
	refusesOf(t, c, fifth(), "where a record is", func(s *chain.State) { slices.Reverse(s.Chains) })
}

// P19.1: a state that may be, but has more pages than the config's.
func TestStatesOfTooManyPages(t *testing.T) {
	big := strings.Repeat("x", 40)
	for _, x := range []struct {
		cap   int
		s     chain.State
		pages int
	}{
		{2, state(1, 1), 4}, {2, state(2, 0), 5}, {16, state(9, 486), 999}, {2, state(0, 0, row(6, 0)...), 4}, {2, state(0, 0, row(7, 0)...), 5}, {3, state(0, 0, row(10, 0)...), 5}, {16, state(0, 0, row(49, 9)...), 5},
		{2, state(1, 0, row(4, 0)...), 4}, {2, state(1, 0, row(5, half-2)...), 4}, {2, state(1, 0, row(6, half-3)...), 5},
		{16, state(0, 0, rec(big, 0), rec(big, 1), rec(big, 2), rec(big, 3), rec(big, 4), rec(big, 5), rec(big, 6), rec(big, 7), rec(big, 8), rec(big, 9), rec(big, 10)), 4},
	} {
		if n := of(t, conf(1, x.cap, x.pages), x.s).Pages(); n != x.pages {
			t.Errorf("Pages of %v: %d, want %d", x.s, n, x.pages)
		}
		if c := conf(1, x.cap, x.pages-1); x.pages > 4 {
			if have, e := chain.Of(c, x.s); have != nil || e != api.ErrForm {
				t.Errorf("Of(%v, %v): %v, %d", c, x.s, have, e)
			}
		}
	}
	for _, s := range []chain.State{state(9, 487), state(10, 0), state(10, 1023), state(0, 0, row(2*999, 0)...)} {
		if why := wrong(conf(1, 2, 999), s); why != "" {
			t.Errorf("%s", why)
		}
		if have, e := chain.Of(conf(1, 2, 999), s); have != nil || e != api.ErrForm {
			t.Errorf("Of(%d chains): %v, %d", len(s.Chains), have, e)
		}
	}
}

// P19.2, P19.3: a chain of several pages, in which each record is found, changed and deleted.
func TestLongChain(t *testing.T) {
	c := conf(1, 2, 10)
	x := of(t, c, state(0, 0, row(18, 100)...))
	if n := x.Pages(); n != 10 {
		t.Fatalf("Pages: %d", n)
	}
	for i := range 18 {
		k := api.Key{100 + uint32(i)}
		if s, e := x.Get(k); s != strconv.Itoa(i) || e != api.OK {
			t.Errorf("Get(%v): %q, %d", k, s, e)
		}
		put(t, x, api.Record{Key: k, Data: "again " + strconv.Itoa(i)})
	}
	if l, e := x.Window(api.Box{Low: api.Key{105}, High: api.Key{111}}); e != api.OK || len(l) != 7 || l[0].Data != "again 5" || l[6].Data != "again 11" {
		t.Errorf("Window: %v, %d", l, e)
	}
	for i := range 17 {
		k := api.Key{100 + uint32(i*7%18)}
		del(t, x, k)
		if s, e := x.Get(k); s != "" || e != api.NotFound {
			t.Errorf("Get(%v): %q, %d", k, s, e)
		}
		if n := x.Pages(); n != 1+(17-i+1)/2 {
			t.Errorf("Pages: %d, with %d records", n, 17-i)
		}
	}
	if l, _ := x.Window(key.Whole(1)); len(l) != 1 || l[0].Key[0] != 100+11 {
		t.Errorf("Window: %v", l)
	}
}

// refusesPut expects of a Put an error, and nothing changed.
func refusesPut(t *testing.T, x *chain.Store, r api.Record, want api.Errno) {
	t.Helper()
	before, n := x.State(), x.Pages()
	_, read := x.Reads()
	if e := x.Put(r); e != want {
		t.Errorf("Put(%v): %d, want %d", r, e, want)
	}
	if s := x.State(); !same(s, before) {
		t.Errorf("Put(%v) has changed %v to %v", r, before, s)
	}
	if now := x.Pages(); now != n {
		t.Errorf("Put(%v): Pages %d, want %d", r, now, n)
	}
	if p, b := x.Reads(); p != 0 || b != read {
		t.Errorf("Put(%v): Reads %d, %d, ahead of it 0, %d", r, p, b, read)
	}
}

// P19.2: a chain is split behind a Put, each in its turn; by hand.
func TestSplit(t *testing.T) {
	c := conf(2, 2, 99)
	x := create(t, c)
	put(t, x, rec("a", 0, 0), rec("b", half, 0))
	holds(t, x, c, state(0, 0, rec("a", 0, 0), rec("b", half, 0)))
	// the chain has two pages: at the first coordinate
	put(t, x, rec("c", most, half))
	holds(t, x, c, chain.State{Level: 1, Chains: [][]api.Record{{rec("a", 0, 0)}, {rec("b", half, 0), rec("c", most, half)}}})
	// none has more than one page
	put(t, x, rec("d", 5, half))
	holds(t, x, c, chain.State{Level: 1, Chains: [][]api.Record{{rec("a", 0, 0), rec("d", 5, half)}, {rec("b", half, 0), rec("c", most, half)}}})
	// the last chain has, and the first one is split, at the second coordinate
	put(t, x, rec("e", most, 7))
	holds(t, x, c, chain.State{Level: 1, Next: 1, Chains: [][]api.Record{{rec("a", 0, 0)}, {rec("d", 5, half)}, {rec("b", half, 0), rec("e", most, 7), rec("c", most, half)}}})
	// the same record again, and it is that chain's turn; at a new level all cells are split at the next coordinate
	put(t, x, rec("E", most, 7))
	want := chain.State{Level: 2, Chains: [][]api.Record{{rec("a", 0, 0)}, {rec("d", 5, half)}, {rec("b", half, 0), rec("E", most, 7)}, {rec("c", most, half)}}}
	holds(t, x, c, want)
	put(t, x, rec("f", quarter, 0), rec("g", quarter, 1))
	want = chain.State{Level: 2, Next: 1, Chains: [][]api.Record{{rec("a", 0, 0)}, {rec("f", quarter, 0), rec("g", quarter, 1)}, {rec("d", 5, half)}, {rec("b", half, 0), rec("E", most, 7)}, {rec("c", most, half)}}}
	holds(t, x, c, want)
}

// P19.2: chains are split as points come, and all points have about one page then, however many there are.
func TestChainsGrow(t *testing.T) {
	r := rand.New(rand.NewSource(7))
	for dim := 1; dim <= 6; dim++ {
		for _, data := range []int{0, 40} {
			c := conf(dim, 8, 999)
			x := create(t, c)
			n := 0
			for range 1200 {
				k := make(api.Key, dim)
				for at := range k {
					k[at] = r.Uint32()
				}
				put(t, x, rec(strings.Repeat("x", data), k...))
				s := x.State()
				if more := len(s.Chains) - n; more < 0 || more > 2 {
					t.Fatalf("%d chains, ahead of the Put %d", len(s.Chains), n)
				}
				n = len(s.Chains)
			}
			s := x.State()
			holds(t, x, c, s)
			if pages := pagesOf(c, s); pages > 2*n {
				t.Errorf("%d pages of %d chains", pages, n)
			}
			if full := 1200 * bucket.Size([]api.Record{rec(strings.Repeat("x", data), make(api.Key, dim)...)}) / 229; n > 2*max(full, 1200/8) {
				t.Errorf("%d chains", n)
			}
		}
	}
}

// mixed are records whose first coordinates rise, by turns two with much Data and fourteen with none: a page has all sixteen. The former ones' second coordinates are lower ones.
func mixed(pages int, low uint32, high uint32) []api.Record {
	var l []api.Record
	for i := range 16 * pages {
		r := rec("", uint32(i), high)
		if i%8 == 0 {
			r = rec(strings.Repeat("x", 40), uint32(i), low)
		}
		l = append(l, r)
	}
	return l
}

// P19.2: a Put makes at most 60 pages more, though a split would make more of them.
func TestPagesOfASplit(t *testing.T) {
	for _, x := range []struct{ pages, more int }{{100, 38}, {150, 57}, {152, 57}, {153, 58}, {154, 58}, {155, 0}, {156, 0}, {160, 0}, {400, 0}} {
		s := state(1, 0, mixed(x.pages, 0, half)...)
		for _, c := range []api.Config{conf(2, 16, 999), conf(2, 16, x.pages+2+60)} {
			have := of(t, c, s)
			r := rec("y", 16, half-1)
			if n := have.Pages(); n != x.pages+2 {
				t.Fatalf("Pages: %d", n)
			}
			put(t, have, s.Chains[0][0])
			if n := have.Pages(); n != x.pages+2+x.more || n != pagesOf(c, have.State()) {
				t.Errorf("%d pages: %d more, want %d", x.pages, n-x.pages-2, x.more)
			}
			have = of(t, c, s)
			put(t, have, r)
			if n := have.Pages(); n > x.pages+2+60 {
				t.Errorf("%d pages: %d more", x.pages, n-x.pages-2)
			}
			put(t, have, s.Chains[0][0], rec("y", 17, 1), rec("", 16, 0))
		}
	}
}

// P19.2: where the pages that are, and 60, are not above Pages, DiskFull is never told.
func TestDiskFullIsNotToldWithManyPagesLeft(t *testing.T) {
	r := rand.New(rand.NewSource(3))
	for i := range 480 {
		dim := 1 + i%6
		point := points(r, dim, i/6%4)
		cap := 2 + r.Intn(15)
		var l []api.Record
		for range r.Intn(900) {
			if k := point(); len(k) == dim {
				l = append(l, api.Record{Key: k, Data: strings.Repeat("x", r.Intn(41))})
			}
		}
		level := r.Intn(8)
		s := state(level, r.Intn(1<<level), l...)
		n := pagesOf(conf(dim, cap, 999), s)
		if n > 939 {
			continue
		}
		c := conf(dim, cap, n+60)
		for range 5 {
			k := point()
			if len(k) != dim {
				continue
			}
			x := of(t, c, s)
			put(t, x, api.Record{Key: k, Data: strings.Repeat("x", r.Intn(41))})
			holds(t, x, c, x.State())
		}
	}
}

// P19.2: as many records as there is room for, without a page more.
func TestDiskFull(t *testing.T) {
	for _, x := range []struct {
		cap, pages int
		s          chain.State
	}{
		{2, 4, state(0, 0, row(6, 0)...)}, {16, 4, state(0, 0, row(48, 0)...)}, {3, 5, state(1, 0, row(9, 0)...)}, {2, 6, state(1, 1, row(6, 0)...)}, {2, 999, state(0, 0, row(998*2, 0)...)}, {2, 999, state(9, 486, rec("", 0), rec("", 1))},
	} {
		c := conf(1, x.cap, x.pages)
		have := of(t, c, x.s)
		if have.Pages() != x.pages {
			t.Fatalf("Pages: %d, want %d", have.Pages(), x.pages)
		}
		last := x.s.Chains[0][len(x.s.Chains[0])-1].Key[0]
		refusesPut(t, have, rec("", last+1), api.DiskFull)
		refusesPut(t, have, rec("", last+2), api.DiskFull)
		refusesPut(t, have, rec("", last+2, 0), api.BadRequest)
		refusesPut(t, have, rec(strings.Repeat("x", 41), last+2), api.BadRequest)
		put(t, have, rec("A", 0), rec("B", last))
		x.s.Chains[0][0].Data, x.s.Chains[0][len(x.s.Chains[0])-1].Data = "A", "B"
		holds(t, have, c, x.s)
		have = of(t, conf(1, x.cap, min(999, x.pages+1)), x.s)
		if x.pages < 999 {
			put(t, have, rec("", last+1))
		}
		del(t, have, api.Key{0})
		put(t, have, rec("", last+2))
	}
}

// P19.2: too many bytes, though not too many records; what is put in the place of one with more Data, too.
func TestBytesThatDoNotFit(t *testing.T) {
	big := strings.Repeat("x", 40)
	var l []api.Record
	for i := range 15 {
		l = append(l, rec(big, uint32(i)))
	}
	s := state(0, 0, l...) // three pages of five, 226 bytes each
	c := conf(1, 16, 4)
	x := of(t, c, s)
	refusesPut(t, x, rec("", most), api.DiskFull)
	put(t, x, rec(big[:39], 14), rec("", most)) // 230 bytes
	refusesPut(t, x, rec("x", most), api.DiskFull)
	refusesPut(t, x, rec(big, 14), api.DiskFull)
	refusesPut(t, x, rec("", 0, 0), api.BadRequest)
	put(t, x, rec("", 14), rec("x", most), rec(big[:38], 14))
	if n := x.Pages(); n != 4 {
		t.Errorf("Pages: %d", n)
	}
}

// P19.2: where there is room for the record, but for no split, it is put.
func TestRoomForNoSplit(t *testing.T) {
	for pages := 4; pages < 6; pages++ {
		c := conf(1, 2, pages)
		x := of(t, c, state(0, 0, row(5, 7)...))
		put(t, x, rec("", half))
		// two halves have a page more than all
		holds(t, x, c, state(pages-4, 0, append(row(5, 7), rec("", half))...))
	}
}

// P19.3: chains are put together behind a Delete; by hand.
func TestChainsArePutTogether(t *testing.T) {
	for i, x := range []struct {
		cap  int
		s    chain.State
		k    api.Key
		want chain.State
	}{
		{2, state(1, 0, rec("a", 7, 7), rec("b", half, 0), rec("c", half, 1)), api.Key{half, 0}, state(0, 0, rec("a", 7, 7), rec("c", half, 1))},
		{2, state(1, 1, rec("a", 7, 7), rec("b", 3, half), rec("c", half, 1), rec("d", most, 1)), api.Key{most, 1}, state(1, 0, rec("b", 3, half), rec("a", 7, 7), rec("c", half, 1))},
		// as long as records are sparse
		{2, state(2, 0, rec("a", 7, 7), rec("b", 3, half), rec("c", most, 1)), api.Key{most, 1}, state(0, 0, rec("b", 3, half), rec("a", 7, 7))},
		{2, state(8, 77, rec("a", 7, 7), rec("b", 3, half), rec("c", half, 1)), api.Key{3, half}, state(0, 0, rec("a", 7, 7), rec("c", half, 1))},
		{16, state(3, 3, rec("a", 7, 7), rec("b", 3, half)), api.Key{7, 7}, state(0, 0, rec("b", 3, half))},
		// where records are not, none are
		{2, state(1, 0, rec("a", 7, 7), rec("b", half, 0), rec("c", half, 1), rec("d", half, 2)), api.Key{half, 0}, state(1, 0, rec("a", 7, 7), rec("c", half, 1), rec("d", half, 2))},
		{2, state(2, 0, rec("a", 7, 7), rec("b", half, 0), rec("c", half, 1), rec("d", half, 2)), api.Key{half, 0}, state(1, 0, rec("a", 7, 7), rec("c", half, 1), rec("d", half, 2))},
	} {
		c := conf(2, x.cap, 999)
		have := of(t, c, x.s)
		have.Get(x.k)
		del(t, have, x.k)
		holds(t, have, c, x.want)
		if _, b := have.Reads(); b == 0 {
			t.Errorf("case %d: Reads have begun anew", i)
		}
	}
}

// P19.3: records with much Data are not sparse, though they are few.
func TestBytesAreAskedToo(t *testing.T) {
	big := strings.Repeat("x", 40)
	l := []api.Record{rec(big, 1), rec(big, 2), rec(big, 3), rec(big, half+1), rec(big, half+2), rec(big, half+3), rec("", half+4)} // 275 bytes, but for the last one
	c := conf(1, 16, 99)
	x := of(t, c, state(1, 0, l...))
	del(t, x, api.Key{half + 4})
	holds(t, x, c, state(1, 0, l[:6]...))
	del(t, x, api.Key{half + 3})
	holds(t, x, c, state(0, 0, l[:5]...))
	// and such are split though there are few
	x = of(t, c, state(0, 0, l[:5]...))
	put(t, x, rec("", 4))
	holds(t, x, c, state(1, 0, append([]api.Record{rec("", 4)}, l[:5]...)...))
}

// P19.3: a Delete makes no more pages, though two chains would have more of them together.
func TestDeleteMakesNoMorePages(t *testing.T) {
	var l []api.Record
	for i := range uint32(50) {
		r := rec(strings.Repeat("x", 36), i, 0) // five to a page
		if i%5 == 4 {
			r = rec("", i, eighth) // with one of these, four
		}
		l = append(l, r)
	}
	for _, level := range []int{5, 7} {
		c := conf(2, 16, 999)
		s := state(level, 1, append(l, rec("", most, most), rec("", most, 0))...)
		x := of(t, c, s)
		if n := x.Pages(); level == 5 && n != 1+8+1+31 {
			t.Fatalf("Pages: %d", n)
		}
		n := x.Pages()
		del(t, x, api.Key{most, most})
		if x.Pages() > n {
			t.Errorf("%d pages, ahead of the Delete %d", x.Pages(), n)
		}
		if level == 5 {
			holds(t, x, c, state(level, 1, append(l, rec("", most, 0))...))
		}
	}
	// as many as there were may be
	c := conf(2, 16, 99)
	x := of(t, c, state(5, 1, append(slices.Clone(l[:25]), rec("", most, most), rec("", most, 0))...))
	n := x.Pages()
	del(t, x, api.Key{most, most})
	if s := x.State(); len(s.Chains) == 33 || x.Pages() > n {
		t.Errorf("%d pages, ahead of the Delete %d: %v", x.Pages(), n, s)
	}
}

// P19.3: behind a Delete that leaves no record the State is New's, whatever it was; Reads go on.
func TestDeleteOfTheLastRecord(t *testing.T) {
	for dim := 1; dim <= 6; dim++ {
		for _, k := range []api.Key{make(api.Key, dim), slices.Repeat(api.Key{most}, dim)} {
			for _, s := range []chain.State{state(9, 486, api.Record{Key: k}), state(0, 0, api.Record{Key: k}), state(1, 0, api.Record{Key: k}), state(5, 7, api.Record{Key: k})} {
				c := conf(dim, 2, 999)
				x := of(t, c, s)
				x.Get(k)
				del(t, x, k)
				holds(t, x, c, blank())
				if p, b := x.Reads(); p != 0 || b != 1 {
					t.Errorf("Reads: %d, %d", p, b)
				}
				if e := x.Delete(k); e != api.NotFound {
					t.Errorf("Delete: %d", e)
				}
				put(t, x, api.Record{Key: k})
			}
		}
	}
	// a Delete that finds nothing leaves a state without records as it is
	c := conf(1, 2, 99)
	x := of(t, c, state(4, 3))
	if e := x.Delete(api.Key{1}); e != api.NotFound {
		t.Errorf("Delete: %d", e)
	}
	holds(t, x, c, state(4, 3))
}

// walk is a long row of calls of a store, and of another one like it, beside an atlas.
type walk struct {
	c        api.Config
	r        *rand.Rand
	x, again *chain.Store
	a        *atlas.Atlas
	data     int // how many bytes Data may have
	point    func() api.Key
	puts     int // of ten calls that change something
	errors   [10]int
	grown    int // how many chains more and less there came to be
	shrunk   int
}

func (w *walk) step(t *testing.T) {
	t.Helper()
	before := w.x.State()
	k := w.point()
	if all := w.a.All(); len(all) > 0 && w.r.Intn(3) == 0 {
		k = all[w.r.Intn(len(all))].Key
	}
	_, read := w.x.Reads()
	if w.r.Intn(10) < w.puts {
		w.put(t, before, api.Record{Key: k, Data: strings.Repeat("d", w.r.Intn(w.data+1))})
	} else {
		if all := w.a.All(); len(all) > 0 && w.r.Intn(4) > 0 {
			k = all[w.r.Intn(len(all))].Key
		}
		w.del(t, before, k)
	}
	if p, b := w.x.Reads(); p != 0 || b != read {
		t.Fatalf("Reads: %d, %d, ahead of a change 0, %d", p, b, read)
	}
	w.ask(t, k)
}

// expected is what a Put tells.
func expected(c api.Config, s chain.State, r api.Record) api.Errno {
	if e := atlas.Check(r, c.Dim); e != api.OK {
		return e
	}
	s = chain.State{Level: s.Level, Next: s.Next, Chains: slices.Clone(s.Chains)}
	n := chainOf(s, r.Key)
	s.Chains[n] = bucket.Put(s.Chains[n], r)
	if pagesOf(c, s) > c.Pages {
		return api.DiskFull
	}
	return api.OK
}

func (w *walk) put(t *testing.T, before chain.State, r api.Record) {
	t.Helper()
	e := w.x.Put(r)
	if again := w.again.Put(r); again != e {
		t.Fatalf("Put(%v): %d, again %d", r, e, again)
	}
	w.errors[e]++
	s := w.x.State()
	if want := expected(w.c, before, r); e != want {
		t.Fatalf("Put(%v) in %v: %d, want %d", r, before, e, want)
	}
	n, ahead := pagesOf(w.c, s), pagesOf(w.c, before)
	if n > ahead+60 || e == api.DiskFull && ahead+60 <= w.c.Pages {
		t.Fatalf("Put(%v): %d, %d pages more", r, e, n-ahead)
	}
	w.grown += len(s.Chains) - len(before.Chains)
	if e == api.OK {
		w.a.Put(r)
	} else if !same(s, before) {
		t.Fatalf("Put(%v): %d, and %v is %v", r, e, before, s)
	}
}

func (w *walk) del(t *testing.T, before chain.State, k api.Key) {
	t.Helper()
	want := w.a.Delete(k)
	if e, again := w.x.Delete(k), w.again.Delete(k); e != want || again != want {
		t.Fatalf("Delete(%v): %d, again %d, want %d", k, e, again, want)
	}
	s := w.x.State()
	switch {
	case want != api.OK:
		if !same(s, before) {
			t.Fatalf("Delete(%v): %d, and %v is %v", k, want, before, s)
		}
	case w.a.Len() == 0:
		holds(t, w.x, w.c, blank())
	case pagesOf(w.c, s) > pagesOf(w.c, before):
		t.Fatalf("Delete(%v) of %v: %v", k, before, s)
	default:
		w.shrunk += len(before.Chains) - len(s.Chains)
	}
}

// ask expects of Get and Window what the atlas tells, and of Reads what they read.
func (w *walk) ask(t *testing.T, k api.Key) {
	t.Helper()
	_, read := w.x.Reads()
	s, meet := w.x.State(), 0
	want, f := w.a.Get(k)
	if data, e := w.x.Get(k); data != want || e != f {
		t.Fatalf("Get(%v): %q, %d, want %q, %d", k, data, e, want, f)
	}
	if f != api.BadRequest {
		meet = len(sizes(s.Chains[chainOf(s, k)], w.c.Cap))
	}
	if p, n := w.x.Reads(); p != 0 || n != read+meet {
		t.Fatalf("Reads: %d, %d, ahead of a Get 0, %d, it reads %d", p, n, read, meet)
	}
	read += meet
	meet = 0
	b := w.window(k)
	in, f := w.a.Window(b)
	if l, e := w.x.Window(b); !sameRecords(l, in) || e != f {
		t.Fatalf("Window(%v): %v, %d, want %v, %d", b, l, e, in, f)
	}
	for n, l := range s.Chains {
		cell, _ := linear.Box(w.c.Dim, s.Level, s.Next, n)
		if _, met := key.Meet(cell, b); met && f == api.OK {
			meet += len(sizes(l, w.c.Cap))
		}
	}
	if p, n := w.x.Reads(); p != 0 || n != read+meet {
		t.Fatalf("Reads: %d, %d, ahead of Window(%v) 0, %d, %d pages meet it", p, n, b, read, meet)
	}
}

// window is a box with a point at one of its ends, seldom one that may not be.
func (w *walk) window(k api.Key) api.Box {
	b := api.Box{Low: slices.Clone(k), High: w.point()}
	for at := range min(len(b.Low), len(b.High)) {
		if b.Low[at] > b.High[at] && w.r.Intn(50) > 0 {
			b.Low[at], b.High[at] = b.High[at], b.Low[at]
		}
	}
	return b
}

// points tells points of one kind: far from one another, many near one another, in some heaps, of few numbers.
func points(r *rand.Rand, dim int, kind int) func() api.Key {
	heaps := make([]uint32, 24)
	for i := range heaps {
		heaps[i] = r.Uint32()
	}
	return func() api.Key {
		k := make(api.Key, dim)
		if r.Intn(60) == 0 {
			k = make(api.Key, r.Intn(8))
		}
		heap := r.Intn(4)
		for at := range k {
			switch kind {
			case 0:
				k[at] = r.Uint32()
			case 1:
				k[at] = r.Uint32() >> r.Intn(33)
			case 2:
				k[at] = heaps[(6*heap+at)%24] + uint32(r.Intn(9))
			default:
				k[at] = []uint32{0, 1, 2, half, half - 1, most - 1, most}[r.Intn(7)]
			}
		}
		return k
	}
}

// run is a walk in phases, in which ever more or less is put; behind it all is deleted.
func (w *walk) run(t *testing.T, phases ...int) {
	t.Helper()
	for phase, puts := range phases {
		w.puts = puts
		for range 50 {
			w.step(t)
		}
		s := w.x.State()
		holds(t, w.x, w.c, s)
		holds(t, w.again, w.c, s)
		if phase%2 == 0 {
			w.again = of(t, w.c, s)
		}
		if l, _ := w.x.Window(key.Whole(w.c.Dim)); !sameRecords(l, w.a.All()) {
			t.Fatalf("%v, want %v", l, w.a.All())
		}
	}
	for _, record := range w.a.All() {
		w.del(t, w.x.State(), record.Key)
	}
	holds(t, w.x, w.c, blank())
}

// P19.2 to P19.5, R6: it answers as an atlas does; its State may be, and makes the same store.
func TestLongRowsOfCalls(t *testing.T) {
	told, grown, shrunk := [10]int{}, 0, 0
	for seed := range int64(96) {
		r := rand.New(rand.NewSource(seed))
		dim, kind := 1+int(seed)%6, int(seed)/6%4
		c := conf(dim, []int{2, 3, 5, 16}[r.Intn(4)], []int{4, 5, 8, 20, 60, 100, 999}[r.Intn(7)])
		start, phases := blank(), []int{9, 5, 2, 8, 1}
		if seed%48 > 23 {
			c.Cap, c.Pages, phases = 2, 999, []int{10, 10, 2, 5}
			start = []chain.State{state(9, 300), state(9, 0), state(3, 7), state(6, 1)}[r.Intn(4)]
		}
		a, _ := atlas.New(dim)
		w := &walk{c: c, r: r, x: of(t, c, start), again: of(t, c, start), a: a, data: []int{0, 3, 41}[r.Intn(3)], point: points(r, dim, kind)}
		w.run(t, phases...)
		grown, shrunk = grown+w.grown, shrunk+w.shrunk
		for e, n := range w.errors {
			told[e] += n
		}
	}
	for _, e := range []api.Errno{api.OK, api.BadRequest, api.DiskFull} {
		if told[e] < 50 {
			t.Errorf("a Put told %d only %d times", e, told[e])
		}
	}
	if grown < 50 || shrunk < 50 {
		t.Errorf("only %d chains more, and %d less", grown, shrunk)
	}
}

// P19.4: by hand.
func TestReads(t *testing.T) {
	c := conf(2, 2, 99)
	s := fifth()
	s.Chains[0] = append(s.Chains[0], rec("", 6, 0), rec("", 7, 0)) // three pages
	s.Chains[3] = append(s.Chains[3][:1:1], rec("", half, 1), rec("", half, 2), rec("f", most, half-1))
	x := of(t, c, s)
	read := 0
	reads := func(what string, more int) {
		t.Helper()
		p, b := x.Reads()
		if p != 0 || b != read+more {
			t.Errorf("%s: Reads %d, %d, want 0, %d more than %d", what, p, b, more, read)
		}
		read = b
	}
	for _, y := range []struct {
		k     api.Key
		pages int
	}{{api.Key{0, 0}, 3}, {api.Key{7, 0}, 3}, {api.Key{9, 9}, 3}, {api.Key{quarter, half - 1}, 1}, {api.Key{quarter, 0}, 1}, {api.Key{0, half}, 1}, {api.Key{half, 0}, 2}, {api.Key{most, 0}, 2}, {api.Key{most, most}, 1}} {
		x.Get(y.k)
		reads("Get", y.pages)
	}
	for _, k := range wrongPoints(2) {
		x.Get(k)
		reads("Get of what may not be", 0)
	}
	for _, y := range []struct {
		low, high api.Key
		pages     int
	}{{api.Key{0, 0}, api.Key{most, most}, 8}, {api.Key{0, 0}, api.Key{0, 0}, 3}, {api.Key{most, most}, api.Key{most, most}, 1}, {api.Key{0, 0}, api.Key{half - 1, half - 1}, 4}, {api.Key{quarter - 1, 5}, api.Key{quarter, 5}, 4}, {api.Key{quarter, 5}, api.Key{half - 1, 5}, 1}, {api.Key{0, half - 1}, api.Key{0, half}, 4}, {api.Key{0, half}, api.Key{most, most}, 2}, {api.Key{half, 0}, api.Key{most, half}, 3}} {
		x.Window(api.Box{Low: y.low, High: y.high})
		reads("Window", y.pages)
	}
	for _, b := range wrongBoxes(2) {
		x.Window(b)
		reads("Window that may not be", 0)
	}
	put(t, x, rec("", 4, 4), rec("", 5, most))
	x.Put(rec("", 1))
	del(t, x, api.Key{4, 4})
	x.Delete(api.Key{4, 4})
	x.State()
	x.Pages()
	x.Copy().Get(api.Key{3, 3})
	reads("all others", 0)
}

// wrongPoints are points that may not be, of so many coordinates.
func wrongPoints(dim int) []api.Key {
	out := []api.Key{nil, {}, make(api.Key, dim+1), make(api.Key, 7)}
	return append(out, make(api.Key, dim-1))
}

func wrongBoxes(dim int) []api.Box {
	out := []api.Box{{}, {Low: make(api.Key, dim)}, {High: make(api.Key, dim)}}
	for _, k := range wrongPoints(dim) {
		out = append(out, api.Box{Low: k, High: k}, api.Box{Low: k, High: make(api.Key, dim)}, api.Box{Low: make(api.Key, dim), High: k})
	}
	for at := range dim {
		b := key.Whole(dim)
		b.Low[at], b.High[at] = 8, 7
		out = append(out, b)
	}
	return out
}

// P19.2, P19.3, R3: what may not be.
func TestRefusals(t *testing.T) {
	for dim := 1; dim <= 6; dim++ {
		x := create(t, conf(dim, 2, 99))
		put(t, x, api.Record{Key: make(api.Key, dim), Data: "x"})
		before := x.State()
		for _, k := range wrongPoints(dim) {
			refusesPut(t, x, api.Record{Key: k}, api.BadRequest)
			if e := x.Delete(k); e != api.BadRequest {
				t.Errorf("Delete(%v): %d", k, e)
			}
			if s, e := x.Get(k); s != "" || e != api.BadRequest {
				t.Errorf("Get(%v): %q, %d", k, s, e)
			}
		}
		refusesPut(t, x, api.Record{Key: make(api.Key, dim), Data: strings.Repeat("x", 41)}, api.BadRequest)
		for _, b := range wrongBoxes(dim) {
			if l, e := x.Window(b); len(l) != 0 || e != api.BadRequest {
				t.Errorf("Window(%v): %v, %d", b, l, e)
			}
		}
		other := slices.Repeat(api.Key{1}, dim)
		if s, e := x.Get(other); s != "" || e != api.NotFound {
			t.Errorf("Get(%v): %q, %d", other, s, e)
		}
		if e := x.Delete(other); e != api.NotFound {
			t.Errorf("Delete(%v): %d", other, e)
		}
		if s := x.State(); !same(s, before) {
			t.Errorf("%v, want %v", s, before)
		}
	}
}

// R1, P19.1: methods of nil, and of a store that was not made.
func TestNil(t *testing.T) {
	for _, x := range []*chain.Store{nil, {}, {Config: conf(1, 2, 9)}} {
		for dim := range 8 {
			if e := x.Put(api.Record{Key: make(api.Key, dim)}); e != api.BadRequest {
				t.Errorf("Put: %d", e)
			}
			if e := x.Delete(make(api.Key, dim)); e != api.BadRequest {
				t.Errorf("Delete: %d", e)
			}
			if s, e := x.Get(make(api.Key, dim)); s != "" || e != api.BadRequest {
				t.Errorf("Get: %q, %d", s, e)
			}
			if l, e := x.Window(key.Whole(dim)); len(l) != 0 || e != api.BadRequest {
				t.Errorf("Window: %v, %d", l, e)
			}
		}
		if s := x.State(); !same(s, chain.State{}) || x.Pages() != 0 || x.Copy() != nil {
			t.Errorf("%v, %d, %v", s, x.Pages(), x.Copy())
		}
		if p, b := x.Reads(); p != 0 || b != 0 {
			t.Errorf("Reads: %d, %d", p, b)
		}
	}
}

// P19.1: a copy is like it, and of its own.
func TestCopy(t *testing.T) {
	c := conf(2, 2, 50)
	x := of(t, c, fifth())
	x.Get(api.Key{0, 0})
	x.Window(key.Whole(2))
	_, read := x.Reads()
	before := x.State()
	other := x.Copy()
	holds(t, other, c, before)
	if p, b := other.Reads(); p != 0 || b != read {
		t.Errorf("Reads: %d, %d, want 0, %d", p, b, read)
	}
	for i := range uint32(20) {
		put(t, other, rec("other", i<<27, i<<28))
	}
	put(t, other, rec("other", 5, 5))
	other.Get(api.Key{0, 0})
	holds(t, x, c, before)
	after := other.State()
	if len(after.Chains) < 7 {
		t.Errorf("%d chains", len(after.Chains))
	}
	del(t, x, api.Key{5, 6}, api.Key{half, half}, api.Key{most, half - 1}, api.Key{half, 0})
	put(t, x, rec("this", 0, 0), rec("", 5, 4))
	if n := len(x.State().Chains); n > 4 {
		t.Errorf("%d chains", n)
	}
	holds(t, other, c, after)
	third := other.Copy()
	for _, l := range after.Chains {
		for _, r := range l {
			del(t, third, r.Key)
		}
	}
	holds(t, third, c, blank())
	holds(t, other, c, after)
	if p, b := x.Reads(); p != 0 || b != read {
		t.Errorf("Reads: %d, %d, want 0, %d", p, b, read)
	}
}

// apart expects that records share no memory with others, nor with one another; then it spoils them.
func apart(t *testing.T, l []api.Record, given []api.Record) {
	t.Helper()
	want := copied(l)
	for i, r := range l {
		for _, x := range given {
			at, from := uintptr(unsafe.Pointer(unsafe.StringData(r.Data))), uintptr(unsafe.Pointer(unsafe.StringData(x.Data)))
			if r.Data != "" && at >= from && at < from+uintptr(len(x.Data)) {
				t.Errorf("the text %q is shared", r.Data)
			}
		}
		if !slices.Equal(r.Key, want[i].Key) {
			t.Errorf("two lists share their memory: %v, want %v", r.Key, want[i].Key)
		}
		for at := range r.Key[:cap(r.Key)] {
			r.Key[:cap(r.Key)][at] = 12345
		}
	}
	clear(l[:cap(l)])
}

// R5: what is handed in is not changed and not kept; what is told is new, its spare room too.
func TestNothingIsShared(t *testing.T) {
	c := conf(2, 4, 50)
	s := fifth()
	text := "all of a text"
	s.Chains[0][0].Data = text[4:6]
	want := copiedState(s)
	x := of(t, c, s)
	given := slices.Concat(s.Chains...)
	for _, l := range s.Chains {
		apart(t, l, nil)
	}
	clear(s.Chains)
	holds(t, x, c, want)
	for range 2 {
		told := x.State()
		if !same(told, want) {
			t.Fatalf("State: %v, want %v", told, want)
		}
		for _, l := range told.Chains {
			apart(t, l, append(given, rec(text)))
		}
		clear(told.Chains[:cap(told.Chains)])
		b := key.Whole(2)
		l, _ := x.Window(b)
		if len(l) != 7 {
			t.Fatalf("Window: %v", l)
		}
		apart(t, l, append(given, rec(text)))
		if !slices.Equal(b.Low, key.Whole(2).Low) || !slices.Equal(b.High, key.Whole(2).High) {
			t.Errorf("Window has changed its box: %v", b)
		}
		holds(t, x, c, want)
	}
	for i := range uint32(20) {
		r := rec(text[:3], i<<26, 40-i)
		put(t, x, r)
		if !slices.Equal(r.Key, api.Key{i << 26, 40 - i}) {
			t.Errorf("Put has changed its record: %v", r)
		}
		apart(t, []api.Record{r}, nil)
		l, _ := x.Window(api.Box{Low: api.Key{i << 26, 40 - i}, High: api.Key{i << 26, 40 - i}})
		if len(l) != 1 || l[0].Data != "all" {
			t.Errorf("Window: %v", l)
		}
		apart(t, l, []api.Record{rec(text)})
	}
	for i := range uint32(20) {
		k := api.Key{i << 26, 40 - i}
		del(t, x, k)
		if !slices.Equal(k, api.Key{i << 26, 40 - i}) {
			t.Errorf("Delete has changed its point: %v", k)
		}
	}
	if l, _ := x.Window(key.Whole(2)); len(l) != 7 {
		t.Errorf("Window: %v", l)
	}
}

// cuts expects of Cut so many records in each piece, all of them in their order, of memory of its own.
func cuts(t *testing.T, l []api.Record, cap int, want ...int) {
	t.Helper()
	before := copied(l)
	have := chain.Cut(l, cap)
	var n []int
	for _, piece := range have {
		n = append(n, len(piece))
	}
	if !slices.Equal(n, want) || !sameRecords(slices.Concat(have...), before) || !sameRecords(l, before) {
		t.Errorf("Cut(%v, %d): %v, want pieces of %v", before, cap, have, want)
	}
	for i, piece := range have {
		behind := copied(slices.Concat(have[i+1:]...))
		apart(t, piece, l)
		if !sameRecords(slices.Concat(have[i+1:]...), behind) {
			t.Errorf("Cut(%v, %d): two pieces share their memory", before, cap)
		}
	}
	if !sameRecords(l, before) {
		t.Errorf("Cut shares its list: %v, want %v", l, before)
	}
}

// P19.6: by hand; example 1.
func TestCut(t *testing.T) {
	cuts(t, row(3, 7), 2, 2, 1)
	for _, cap := range []int{math.MinInt, -1, 0, 1, 2, 16, 17, math.MaxInt} {
		cuts(t, nil, cap, 0)
		cuts(t, []api.Record{}, cap, 0)
		cuts(t, row(1, 7), cap, 1)
	}
	for _, cap := range []int{math.MinInt, -5, -1, 0, 1} {
		cuts(t, row(2, 7), cap, 1, 1)
		cuts(t, row(5, 7), cap, 1, 1, 1, 1, 1)
	}
	cuts(t, row(2, 7), 2, 2)
	cuts(t, row(4, 7), 2, 2, 2)
	cuts(t, row(15, 7), 16, 15)
	cuts(t, row(16, 7), 16, 16)
	cuts(t, row(17, 7), 16, 16, 1)
	cuts(t, row(33, 7), 16, 16, 16, 1)
	cuts(t, row(34, 7), 17, 17, 17)
	// 10 of 6 bytes, then 24 of 7
	cuts(t, row(40, 7), 99, 34, 6)
	cuts(t, row(40, 7), math.MaxInt, 34, 6)
	big := strings.Repeat("x", 40)
	four := []api.Record{rec(big, 1), rec(big, 2), rec(big, 3), rec(big, 4)} // 181 bytes
	cuts(t, append(four[:4:4], rec(big[:39], 5), rec("", 6)), 16, 6)         // 230 bytes, that fit just
	cuts(t, append(four[:4:4], rec(big, 5), rec("", 6)), 16, 5, 1)           // 231
	cuts(t, append(four[:4:4], rec(big[:39], 5), rec("x", 6)), 16, 5, 1)
	cuts(t, append(four[:4:4], rec(big, 5)), 16, 5)
	cuts(t, append(four[:4:4], rec(big, 5), rec(big, 6), rec(big, 7), rec(big, 8), rec(big, 9), rec(big, 10), rec(big, 11)), 16, 5, 5, 1)
	// of most bytes: three of six coordinates fit
	var six []api.Record
	for i := range uint32(7) {
		six = append(six, rec(big, 0, 0, 0, 0, 0, i))
	}
	cuts(t, six, 16, 3, 3, 1)
	cuts(t, six, 2, 2, 2, 2, 1)
	// of more bytes than fit there is one to a piece
	huge := strings.Repeat("x", 300)
	cuts(t, []api.Record{rec(huge, 1)}, 16, 1)
	cuts(t, []api.Record{rec(huge, 1), rec(huge, 2), rec("", 3), rec(huge, 4), rec("", 5), rec("", 6)}, 16, 1, 1, 1, 1, 2)
	// points of no coordinates, and of unlike ones
	cuts(t, make([]api.Record, 500), 1000, 229, 229, 42)
	cuts(t, []api.Record{rec("a"), rec("b", 9, 9, 9), rec("c", 1)}, 2, 2, 1)
}

// P19.6: of any list, beside pieces counted word by word.
func TestCutOfMany(t *testing.T) {
	r := rand.New(rand.NewSource(1))
	for range 3000 {
		var l []api.Record
		data := []int{1, 3, 41, 300}[r.Intn(4)]
		for range r.Intn(60) {
			l = append(l, rec(strings.Repeat("x", r.Intn(data)), make(api.Key, r.Intn(8))...))
		}
		cap := r.Intn(20) - 2
		cuts(t, l, cap, sizes(l, max(1, cap))...)
	}
}
