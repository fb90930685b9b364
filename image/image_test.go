package image_test

import (
	"math"
	"math/rand"
	"slices"
	"strconv"
	"strings"
	"testing"
	"unsafe"

	"cadastre/api"
	"cadastre/chain"
	"cadastre/engine"
	"cadastre/entry"
	"cadastre/exdir"
	"cadastre/grid"
	"cadastre/image"
)

const (
	most = math.MaxUint32
	half = 1 << 31
)

func variants() []int { return []int{api.Grid, api.Excell, api.Molhpe} }

func rec(data string, k ...uint32) api.Record { return api.Record{Key: k, Data: data} }

func conf(variant int, dim int, cap int, pages int) api.Config {
	return api.Config{Variant: variant, Dim: dim, Cap: cap, Pages: pages}
}

func sameRecords(a []api.Record, b []api.Record) bool {
	return slices.EqualFunc(a, b, func(a api.Record, b api.Record) bool {
		return slices.Equal(a.Key, b.Key) && a.Data == b.Data
	})
}

func sameLists(a [][]api.Record, b [][]api.Record) bool {
	return slices.EqualFunc(a, b, sameRecords)
}

func same(a engine.State, b engine.State) bool {
	return a.Grid.Scale == b.Grid.Scale && slices.Equal(a.Grid.Cells, b.Grid.Cells) && sameLists(a.Grid.Buckets, b.Grid.Buckets) && a.Grid.Turn == b.Grid.Turn &&
		a.Excell.Depth == b.Excell.Depth && slices.Equal(a.Excell.Cells, b.Excell.Cells) && sameLists(a.Excell.Buckets, b.Excell.Buckets) &&
		a.Molhpe.Level == b.Molhpe.Level && a.Molhpe.Next == b.Molhpe.Next && sameLists(a.Molhpe.Chains, b.Molhpe.Chains)
}

func copied(l [][]api.Record) [][]api.Record {
	var out [][]api.Record
	for _, records := range l {
		var copies []api.Record
		for _, r := range records {
			copies = append(copies, rec(r.Data, slices.Clone(r.Key)...))
		}
		out = append(out, copies)
	}
	return out
}

func copiedState(s engine.State) engine.State {
	s.Grid.Cells, s.Grid.Buckets = slices.Clone(s.Grid.Cells), copied(s.Grid.Buckets)
	s.Excell.Cells, s.Excell.Buckets = slices.Clone(s.Excell.Cells), copied(s.Excell.Buckets)
	s.Molhpe.Chains = copied(s.Molhpe.Chains)
	return s
}

// num are the bytes of numbers of one width, the highest one first.
func num(width int, l ...int) string {
	var b []byte
	for _, n := range l {
		for i := width - 1; i >= 0; i-- {
			b = append(b, byte(n>>(8*i)))
		}
	}
	return string(b)
}

// text are the bytes of a bucket, whether it may be or not.
func text(l ...api.Record) string {
	s := num(1, len(l))
	for _, r := range l {
		for _, n := range r.Key {
			s += num(4, int(n))
		}
		s += num(1, len(r.Data)) + r.Data
	}
	return s
}

// cut are the pages of a chain.
func cut(l []api.Record, cap int) [][]api.Record {
	out := [][]api.Record{{}}
	for _, r := range l {
		last := out[len(out)-1]
		if next := append(slices.Clone(last), r); len(last) == 0 || len(next) <= cap && len(text(next...)) <= 230 {
			out[len(out)-1] = next
		} else {
			out = append(out, []api.Record{r})
		}
	}
	return out
}

// pages are those of some kinds and bodies, numbered.
type pages []api.Page

func (p *pages) add(kind int, bodies ...string) {
	for _, body := range bodies {
		*p = append(*p, api.Page{Kind: kind, Number: len(*p), Body: body})
	}
}

// numbered are pages with the numbers of their places.
func numbered(l []api.Page) []api.Page {
	for i := range l {
		l[i].Number = i
	}
	return l
}

// chunks is a text cut into pieces of one size, the last one maybe shorter.
func chunks(s string, size int) []string {
	var out []string
	for len(s) > size {
		out, s = append(out, s[:size]), s[size:]
	}
	if s == "" {
		return out
	}
	return append(out, s)
}

// head is what all super pages begin with.
func head(c api.Config) string { return "CADA" + num(1, c.Variant, c.Dim, c.Cap) + num(2, c.Pages) }

// laid are the pages of a state, word by word as the document says it, whether it may be or not.
func laid(c api.Config, s engine.State) []api.Page {
	var p pages
	var cells []int
	var buckets [][]api.Record
	switch c.Variant {
	case api.Grid:
		cells, buckets = s.Grid.Cells, s.Grid.Buckets
		p.add(api.PageSuper, head(c)+num(2, s.Grid.Turn%65536, len(s.Grid.Scale), len(cells), len(buckets)))
		p.add(api.PageScale, chunks(s.Grid.Scale, 200)...)
	case api.Excell:
		cells, buckets = s.Excell.Cells, s.Excell.Buckets
		p.add(api.PageSuper, head(c)+num(1, s.Excell.Depth)+num(2, len(buckets)))
	default:
		for _, l := range s.Molhpe.Chains {
			cells = append(cells, len(cut(l, c.Cap)))
			buckets = append(buckets, cut(l, c.Cap)...)
		}
		p.add(api.PageSuper, head(c)+num(1, s.Molhpe.Level)+num(2, s.Molhpe.Next))
	}
	p.add(api.PageDir, chunks(num(2, cells...), 200)...)
	for _, l := range buckets {
		p.add(api.PageBucket, text(l...))
	}
	return p
}

// shown are pages as a message tells them.
func shown(l []api.Page) string {
	var out []string
	for _, p := range l {
		out = append(out, strconv.Itoa(p.Kind)+" "+strconv.Itoa(p.Number)+" "+strconv.QuoteToASCII(p.Body))
	}
	return "[" + strings.Join(out, ", ") + "]"
}

// writes expects of Encode certain pages, and of Decode what they were made of.
func writes(t *testing.T, c api.Config, s engine.State, want []api.Page) {
	t.Helper()
	for range 2 {
		l, e := image.Encode(c, s)
		if e != api.OK || !slices.Equal(l, want) {
			t.Fatalf("Encode(%v, %v): %s, %d, want %s", c, s, shown(l), e, shown(want))
		}
		d, z, e := image.Decode(l)
		if d != c || !same(z, s) || e != api.OK {
			t.Fatalf("Decode(%s): %v, %v, %d, want %v, %v", shown(l), d, z, e, c, s)
		}
	}
}

// refuses expects that pages are not what Encode makes of anything.
func refuses(t *testing.T, l []api.Page, why string) {
	t.Helper()
	if c, s, e := image.Decode(l); c != (api.Config{}) || !same(s, engine.State{}) || e != api.ErrForm {
		t.Errorf("%s: Decode(%s): %v, %v, %d", why, shown(l), c, s, e)
	}
}

// reads expects that pages are refused, or else that they are what Encode makes of what they tell; it tells whether they are.
func reads(t *testing.T, l []api.Page) bool {
	t.Helper()
	c, s, e := image.Decode(l)
	if e != api.OK {
		refuses(t, l, "")
		return false
	}
	if again, e := image.Encode(c, s); e != api.OK || !slices.Equal(again, l) || !slices.Equal(laid(c, s), l) {
		t.Fatalf("Decode(%s): %v, %v, of which Encode makes %s, %d", shown(l), c, s, shown(again), e)
	}
	return true
}

// forbids expects that of a state no pages are made.
func forbids(t *testing.T, c api.Config, s engine.State, why string) {
	t.Helper()
	if l, e := image.Encode(c, s); len(l) != 0 || e != api.BadRequest {
		t.Errorf("%s: Encode(%v, %v): %s, %d", why, c, s, shown(l), e)
	}
}

// store is a config, and a state of it that may be.
type store struct {
	c api.Config
	s engine.State
}

// blank is a store without records.
func blank(t *testing.T, c api.Config) store {
	t.Helper()
	return filled(t, c)
}

// filled is a store that has some records.
func filled(t *testing.T, c api.Config, l ...api.Record) store {
	t.Helper()
	x, e := engine.New(c)
	if e != api.OK {
		t.Fatalf("New(%v): %d", c, e)
	}
	if n, e := x.Load(l); e != api.OK {
		t.Fatalf("Load: %d, %d", n, e)
	}
	return store{c, x.State()}
}

// scaled is the text of a scale of so many intervals for each coordinate: the bounds are 10, 20 and so on.
func scaled(sizes ...int) string {
	s := ""
	for _, size := range sizes {
		s += num(1, size-1)
		for i := 1; i < size; i++ {
			s += num(4, 10*i)
		}
	}
	return s
}

// gridded is a grid file of so many intervals for each coordinate; of no cells it is one bucket's.
func gridded(sizes []int, cells []int, buckets ...[]api.Record) engine.State {
	n := 1
	for _, size := range sizes {
		n *= size
	}
	if cells == nil {
		cells = make([]int, n)
	}
	return engine.State{Grid: grid.State{Scale: scaled(sizes...), Cells: cells, Buckets: buckets}}
}

// rising are so many numbers from 0 on.
func rising(n int) []int {
	var l []int
	for i := range n {
		l = append(l, i)
	}
	return l
}

func excelled(depth int, cells []int, buckets ...[]api.Record) engine.State {
	return engine.State{Excell: exdir.State{Depth: depth, Cells: cells, Buckets: buckets}}
}

func chained(level int, next int, chains ...[]api.Record) engine.State {
	return engine.State{Molhpe: chain.State{Level: level, Next: next, Chains: chains}}
}

// row are so many records of points of one coordinate, from 0 on.
func row(n int) []api.Record {
	var l []api.Record
	for i := range n {
		l = append(l, rec("", uint32(i)))
	}
	return l
}

// wide are records of points of one coordinate, whose bucket has so many bytes: 211 to 241.
func wide(bytes int) []api.Record {
	l := row(6)
	for i := range l[:5] {
		l[i].Data = strings.Repeat("x", 36)
	}
	l[5].Data = strings.Repeat("y", bytes-211)
	return l
}

// quarters is a grid of two coordinates, of three regions, of which the first one has two cells.
func quarters() store {
	s := gridded([]int{2, 2}, []int{0, 0, 1, 2}, []api.Record{rec("a", 0, 0), rec("b", 9, most)}, []api.Record{rec("c", 10, 3)}, []api.Record{rec("d", 11, 11), rec("e", most, most)})
	s.Grid.Turn = 258
	return store{conf(api.Grid, 2, 2, 50), s}
}

// eighths is an EXCELL store of one coordinate, of three blocks of cells.
func eighths() store {
	return store{conf(api.Excell, 1, 3, 50), excelled(2, []int{1, 1, 0, 2}, []api.Record{rec("c", half)}, []api.Record{rec("a", 0), rec("b", half-1)}, []api.Record{rec("d", 3<<30), rec("e", most)})}
}

// chains is a MOLHPE store of one coordinate, of three chains, of which the last one has two pages.
func chains() store {
	return store{conf(api.Molhpe, 1, 2, 50), chained(1, 1, []api.Record{rec("a", 0)}, nil, []api.Record{rec("c", half), rec("d", half+1), rec("e", most)})}
}

// P22.1: a new store of each variant, byte by byte; example 1.
func TestNewStores(t *testing.T) {
	for _, x := range []struct {
		variant int
		want    []api.Page
	}{
		{api.Grid, []api.Page{{Kind: 1, Number: 0, Body: "CADA\x01\x02\x04\x01\x2c\x00\x00\x00\x02\x00\x01\x00\x01"}, {Kind: 4, Number: 1, Body: "\x00\x00"}, {Kind: 3, Number: 2, Body: "\x00\x00"}, {Kind: 2, Number: 3, Body: "\x00"}}},
		{api.Excell, []api.Page{{Kind: 1, Number: 0, Body: "CADA\x02\x02\x04\x01\x2c\x00\x00\x01"}, {Kind: 3, Number: 1, Body: "\x00\x00"}, {Kind: 2, Number: 2, Body: "\x00"}}},
		{api.Molhpe, []api.Page{{Kind: 1, Number: 0, Body: "CADA\x03\x02\x04\x01\x2c\x00\x00\x00"}, {Kind: 3, Number: 1, Body: "\x00\x01"}, {Kind: 2, Number: 2, Body: "\x00"}}},
	} {
		c := conf(x.variant, 2, 4, 300)
		writes(t, c, blank(t, c).s, x.want)
	}
	for _, variant := range variants() {
		for dim := 1; dim <= 6; dim++ {
			for _, c := range []api.Config{conf(variant, dim, 2, 4), conf(variant, dim, 16, 999), conf(variant, dim, 5, 256)} {
				x := blank(t, c)
				writes(t, c, x.s, laid(c, x.s))
			}
		}
	}
}

// P22.1: some records, byte by byte.
func TestPagesByHand(t *testing.T) {
	x := quarters()
	writes(t, x.c, x.s, []api.Page{
		{Kind: 1, Number: 0, Body: "CADA\x01\x02\x02\x00\x32\x01\x02\x00\x0a\x00\x04\x00\x03"},
		{Kind: 4, Number: 1, Body: "\x01\x00\x00\x00\x0a\x01\x00\x00\x00\x0a"},
		{Kind: 3, Number: 2, Body: "\x00\x00\x00\x00\x00\x01\x00\x02"},
		{Kind: 2, Number: 3, Body: "\x02\x00\x00\x00\x00\x00\x00\x00\x00\x01a\x00\x00\x00\x09\xff\xff\xff\xff\x01b"},
		{Kind: 2, Number: 4, Body: "\x01\x00\x00\x00\x0a\x00\x00\x00\x03\x01c"},
		{Kind: 2, Number: 5, Body: "\x02\x00\x00\x00\x0b\x00\x00\x00\x0b\x01d\xff\xff\xff\xff\xff\xff\xff\xff\x01e"},
	})
	x = eighths()
	writes(t, x.c, x.s, []api.Page{
		{Kind: 1, Number: 0, Body: "CADA\x02\x01\x03\x00\x32\x02\x00\x03"},
		{Kind: 3, Number: 1, Body: "\x00\x01\x00\x01\x00\x00\x00\x02"},
		{Kind: 2, Number: 2, Body: "\x01\x80\x00\x00\x00\x01c"},
		{Kind: 2, Number: 3, Body: "\x02\x00\x00\x00\x00\x01a\x7f\xff\xff\xff\x01b"},
		{Kind: 2, Number: 4, Body: "\x02\xc0\x00\x00\x00\x01d\xff\xff\xff\xff\x01e"},
	})
	x = chains()
	writes(t, x.c, x.s, []api.Page{
		{Kind: 1, Number: 0, Body: "CADA\x03\x01\x02\x00\x32\x01\x00\x01"},
		{Kind: 3, Number: 1, Body: "\x00\x01\x00\x01\x00\x02"},
		{Kind: 2, Number: 2, Body: "\x01\x00\x00\x00\x00\x01a"},
		{Kind: 2, Number: 3, Body: "\x00"},
		{Kind: 2, Number: 4, Body: "\x02\x80\x00\x00\x00\x01c\x80\x00\x00\x01\x01d"},
		{Kind: 2, Number: 5, Body: "\x01\xff\xff\xff\xff\x01e"},
	})
}

// shape tells pages in short: their kinds and how many bytes they have; of many alike, one behind the other, how many there are.
func shape(l []api.Page) string {
	var out []string
	for i := 0; i < len(l); {
		kind, size, n := l[i].Kind, len(l[i].Body), 0
		for i < len(l) && l[i].Kind == kind && len(l[i].Body) == size {
			i++
			n++
		}
		s := string("?SBDC"[kind]) + strconv.Itoa(size)
		if n > 1 {
			s += "*" + strconv.Itoa(n)
		}
		out = append(out, s)
	}
	return strings.Join(out, " ")
}

// P22.1, P22.3: what fills just one page, one byte or number more, and several pages.
func TestPagesThatAreFull(t *testing.T) {
	var none []api.Record
	for _, x := range []struct {
		c    api.Config
		s    engine.State
		want string
	}{
		// Scale
		{conf(api.Grid, 3, 2, 99), gridded([]int{50, 1, 1}, nil, none), "S17 C199 D100 B1"},
		{conf(api.Grid, 4, 2, 99), gridded([]int{1, 50, 1, 1}, nil, none), "S17 C200 D100 B1"},
		{conf(api.Grid, 5, 2, 99), gridded([]int{1, 1, 50, 1, 1}, nil, none), "S17 C200 C1 D100 B1"},
		{conf(api.Grid, 3, 2, 99), gridded([]int{64, 37, 1}, nil, none), "S17 C200 C199 D200*23 D136 B1"},
		{conf(api.Grid, 4, 2, 99), gridded([]int{64, 37, 1, 1}, nil, none), "S17 C200*2 D200*23 D136 B1"},
		{conf(api.Grid, 5, 2, 99), gridded([]int{64, 37, 1, 1, 1}, nil, none), "S17 C200*2 C1 D200*23 D136 B1"},
		{conf(api.Grid, 6, 2, 99), gridded([]int{64, 1, 1, 64, 1, 1}, nil, none), "S17 C200*2 C110 D200*40 D192 B1"},
		// Cells
		{conf(api.Grid, 2, 2, 99), gridded([]int{33, 3}, nil, none), "S17 C138 D198 B1"},
		{conf(api.Grid, 2, 2, 99), gridded([]int{10, 10}, nil, none), "S17 C74 D200 B1"},
		{conf(api.Grid, 2, 2, 99), gridded([]int{51, 2}, nil, none), "S17 C200 C6 D200 D4 B1"},
		{conf(api.Grid, 2, 2, 99), gridded([]int{50, 4}, nil, none), "S17 C200 C10 D200*2 B1"},
		{conf(api.Grid, 3, 2, 99), gridded([]int{7, 29, 1}, nil, none), "S17 C139 D200*2 D6 B1"},
		{conf(api.Grid, 2, 2, 999), gridded([]int{10, 10}, rising(100), make([][]api.Record, 100)...), "S17 C74 D200 B1*100"},
		{conf(api.Grid, 1, 2, 999), gridded([]int{64}, rising(64), make([][]api.Record, 64)...), "S17 C200 C53 D128 B1*64"},
		{conf(api.Excell, 1, 2, 99), excelled(6, make([]int, 64), none), "S12 D128 B1"},
		{conf(api.Excell, 2, 2, 99), excelled(7, make([]int, 128), none), "S12 D200 D56 B1"},
		{conf(api.Excell, 6, 2, 99), excelled(12, make([]int, 4096), none), "S12 D200*40 D192 B1"},
		{conf(api.Excell, 6, 2, 999), excelled(9, rising(512), make([][]api.Record, 512)...), "S12 D200*5 D24 B1*512"},
		{conf(api.Molhpe, 2, 2, 999), chained(6, 35, make([][]api.Record, 99)...), "S12 D198 B1*99"},
		{conf(api.Molhpe, 2, 2, 999), chained(6, 36, make([][]api.Record, 100)...), "S12 D200 B1*100"},
		{conf(api.Molhpe, 2, 2, 999), chained(6, 37, make([][]api.Record, 101)...), "S12 D200 D2 B1*101"},
		{conf(api.Molhpe, 1, 2, 999), chained(7, 72, make([][]api.Record, 200)...), "S12 D200*2 B1*200"},
		{conf(api.Molhpe, 1, 2, 999), chained(7, 73, make([][]api.Record, 201)...), "S12 D200*2 D2 B1*201"},
		// Buckets
		{conf(api.Grid, 1, 16, 4), gridded([]int{1}, nil, wide(229)), "S17 C1 D2 B229"},
		{conf(api.Grid, 1, 16, 4), gridded([]int{1}, nil, wide(230)), "S17 C1 D2 B230"},
		{conf(api.Grid, 1, 6, 4), gridded([]int{1}, nil, wide(230)), "S17 C1 D2 B230"},
		{conf(api.Grid, 1, 16, 4), gridded([]int{1}, nil, row(16)), "S17 C1 D2 B81"},
		{conf(api.Excell, 1, 16, 4), excelled(0, []int{0}, wide(230)), "S12 D2 B230"},
		{conf(api.Excell, 1, 16, 4), excelled(0, []int{0}, row(16)), "S12 D2 B81"},
		{conf(api.Molhpe, 1, 16, 9), chained(0, 0, wide(229)), "S12 D2 B229"},
		{conf(api.Molhpe, 1, 16, 9), chained(0, 0, wide(230)), "S12 D2 B230"},
		{conf(api.Molhpe, 1, 16, 9), chained(0, 0, wide(231)), "S12 D2 B206 B26"},
		{conf(api.Molhpe, 1, 5, 9), chained(0, 0, wide(230)), "S12 D2 B206 B25"},
		{conf(api.Molhpe, 1, 16, 9), chained(0, 0, row(16)), "S12 D2 B81"},
		{conf(api.Molhpe, 1, 16, 9), chained(0, 0, row(17)), "S12 D2 B81 B6"},
		{conf(api.Molhpe, 1, 2, 999), chained(0, 0, row(1001)), "S12 D2 B11*500 B6"},
		{conf(api.Molhpe, 1, 2, 999), chained(1, 0, row(5), none), "S12 D4 B11*2 B6 B1"},
	} {
		writes(t, x.c, x.s, laid(x.c, x.s))
		if l, _ := image.Encode(x.c, x.s); shape(l) != x.want {
			t.Errorf("%v: %s, want %s", x.c, shape(l), x.want)
		}
	}
	for _, l := range [][]api.Record{wide(231), row(17)} {
		forbids(t, conf(api.Grid, 1, 16, 99), gridded([]int{1}, nil, l), "a bucket that does not fit")
		forbids(t, conf(api.Excell, 1, 16, 99), excelled(0, []int{0}, l), "a bucket that does not fit")
	}
}

// P22.1: a Turn as great as may be, and one more.
func TestTurn(t *testing.T) {
	for _, turn := range []int{0, 1, 255, 256, 65534, 65535} {
		x := quarters()
		x.s.Grid.Turn = turn
		writes(t, x.c, x.s, laid(x.c, x.s))
	}
	for _, turn := range []int{65536, 65537, 1 << 17, 1 << 32, 1<<32 + 5, math.MaxInt, -1, -65536, math.MinInt} {
		x := quarters()
		x.s.Grid.Turn = turn
		forbids(t, x.c, x.s, "Turn")
		for _, variant := range variants()[1:] {
			x := blank(t, conf(variant, 2, 2, 50))
			x.s.Grid.Turn = turn
			forbids(t, x.c, x.s, "Turn")
		}
	}
}

// P22.1: configs that may not be, of states that may be of others.
func TestConfigsThatMayNotBe(t *testing.T) {
	for _, x := range []store{quarters(), eighths(), chains()} {
		change := func(n int, most int, set func(c *api.Config)) {
			t.Helper()
			c := x.c
			set(&c)
			forbids(t, c, x.s, "config")
			forbids(t, c, engine.State{}, "config")
			// where a number does not fit, what is written is another one
			if n >= 0 && n <= most {
				refuses(t, laid(c, x.s), "config")
			}
		}
		for _, n := range []int{math.MinInt, -1, 0, 4, 255, 256, 1<<32 + 1, math.MaxInt} {
			change(n, 255, func(c *api.Config) { c.Variant = n })
		}
		for _, n := range []int{math.MinInt, -1, 0, 7, 255, 256, math.MaxInt} {
			change(n, 255, func(c *api.Config) { c.Dim = n })
		}
		for _, n := range []int{math.MinInt, -1, 0, 1, 17, 255, 256, math.MaxInt} {
			change(n, 255, func(c *api.Config) { c.Cap = n })
		}
		for _, n := range []int{math.MinInt, -1, 0, 3, 1000, 65535, math.MaxInt} {
			change(n, 65535, func(c *api.Config) { c.Pages = n })
		}
		// of another variant, or of other points
		for _, variant := range variants() {
			if variant != x.c.Variant {
				change(variant, 255, func(c *api.Config) { c.Variant = variant })
			}
		}
		for dim := 1; dim <= 6; dim++ {
			if dim != x.c.Dim {
				change(dim, 255, func(c *api.Config) { c.Dim = dim })
			}
		}
	}
	forbids(t, api.Config{}, engine.State{}, "no config")
}

// P22.1, P22.2: a config of just as many pages as a state has, and of one less.
func TestPagesOfTheConfig(t *testing.T) {
	for _, x := range []struct {
		store
		pages int
	}{{quarters(), 6}, {eighths(), 5}, {chains(), 5}} {
		c := x.c
		c.Pages = x.pages
		writes(t, c, x.s, laid(c, x.s))
		c.Pages--
		forbids(t, c, x.s, "too many pages")
		refuses(t, laid(c, x.s), "too many pages")
	}
}

// wrongs are states that may not be, each for one reason; by its name.
func wrongs() map[string]store {
	out := map[string]store{}
	change := func(why string, x store, spoil func(s *engine.State)) {
		spoil(&x.s)
		out[strconv.Itoa(x.c.Variant)+": "+why] = x
	}
	for _, x := range []func() store{quarters, eighths, chains} {
		buckets := func(s *engine.State) [][]api.Record {
			switch x().c.Variant {
			case api.Grid:
				return s.Grid.Buckets
			case api.Excell:
				return s.Excell.Buckets
			}
			return s.Molhpe.Chains
		}
		last := func(s *engine.State) []api.Record { return buckets(s)[2] }
		change("nothing", x(), func(s *engine.State) { *s = engine.State{} })
		change("long Data", x(), func(s *engine.State) { last(s)[0].Data = strings.Repeat("x", 41) })
		change("a Key too short", x(), func(s *engine.State) { last(s)[0].Key = last(s)[0].Key[1:] })
		change("a Key too long", x(), func(s *engine.State) { last(s)[0].Key = append(last(s)[0].Key, 1) })
		change("a falling bucket", x(), func(s *engine.State) { slices.Reverse(last(s)) })
		change("a Key twice", x(), func(s *engine.State) { last(s)[1].Key = last(s)[0].Key })
		change("a record of another bucket", x(), func(s *engine.State) { last(s)[0].Key = make(api.Key, x().c.Dim) })
		change("buckets that change places", x(), func(s *engine.State) { l := buckets(s); l[0], l[2] = l[2], l[0] })
	}
	g := func(why string, spoil func(s *grid.State)) {
		change(why, quarters(), func(s *engine.State) { spoil(&s.Grid) })
	}
	g("no Scale", func(s *grid.State) { s.Scale = "" })
	g("a cut Scale", func(s *grid.State) { s.Scale = s.Scale[:9] })
	g("a long Scale", func(s *grid.State) { s.Scale += "\x00" })
	g("a bound 0", func(s *grid.State) { s.Scale = "\x01\x00\x00\x00\x00\x01\x00\x00\x00\x0a" })
	g("64 bounds", func(s *grid.State) {
		s.Scale, s.Cells, s.Buckets = scaled(65, 1), make([]int, 65), make([][]api.Record, 1)
	})
	change("too many cells", store{conf(api.Grid, 3, 2, 99), gridded([]int{64, 64, 2}, nil, nil)}, func(s *engine.State) {})
	g("a cell less", func(s *grid.State) { s.Cells = s.Cells[:3] })
	g("a cell more", func(s *grid.State) { s.Cells = append(s.Cells, 2) })
	g("no cells", func(s *grid.State) { s.Cells = nil })
	g("a cell of no bucket", func(s *grid.State) { s.Cells[3] = 3 })
	g("a cell far from all buckets", func(s *grid.State) { s.Cells[3] = 65535 })
	g("a bucket of no cell", func(s *grid.State) { s.Buckets = append(s.Buckets, nil) })
	g("a bucket less", func(s *grid.State) { s.Buckets = s.Buckets[:2] })
	g("no range", func(s *grid.State) { s.Cells, s.Buckets = []int{0, 1, 1, 0}, make([][]api.Record, 2) })
	g("too many records", func(s *grid.State) { s.Buckets[2] = append(s.Buckets[2], rec("f", most-1, most))[:3] })
	x := func(why string, spoil func(s *exdir.State)) {
		change(why, eighths(), func(s *engine.State) { spoil(&s.Excell) })
	}
	x("a Depth less", func(s *exdir.State) { s.Depth-- })
	x("a Depth more", func(s *exdir.State) { s.Depth++ })
	x("Depth 13", func(s *exdir.State) { s.Depth, s.Cells, s.Buckets = 13, make([]int, 1<<13), make([][]api.Record, 1) })
	x("Depth 255", func(s *exdir.State) { s.Depth = 255 })
	x("a cell less", func(s *exdir.State) { s.Cells = s.Cells[:3] })
	x("a cell more", func(s *exdir.State) { s.Cells = append(s.Cells, 2) })
	x("no cells", func(s *exdir.State) { s.Cells = nil })
	x("a cell of no bucket", func(s *exdir.State) { s.Cells[3] = 3 })
	x("a bucket of no cell", func(s *exdir.State) { s.Buckets = append(s.Buckets, nil) })
	x("a bucket less", func(s *exdir.State) { s.Buckets = s.Buckets[:2] })
	x("no block", func(s *exdir.State) { s.Cells, s.Buckets = []int{0, 1, 1, 2}, make([][]api.Record, 3) })
	x("too many records", func(s *exdir.State) { s.Buckets[1] = row(4) })
	m := func(why string, spoil func(s *chain.State)) {
		change(why, chains(), func(s *engine.State) { spoil(&s.Molhpe) })
	}
	m("a Level less", func(s *chain.State) { s.Level-- })
	m("a Level more", func(s *chain.State) { s.Level++ })
	m("Level 11", func(s *chain.State) { s.Level, s.Chains = 11, make([][]api.Record, 1<<11+1) })
	m("Level 255", func(s *chain.State) { s.Level = 255 })
	m("a Next less", func(s *chain.State) { s.Next-- })
	m("a Next more", func(s *chain.State) { s.Next++ })
	m("all split", func(s *chain.State) { s.Next, s.Chains = 2, make([][]api.Record, 4) })
	m("a chain less", func(s *chain.State) { s.Chains = s.Chains[:2] })
	m("a chain more", func(s *chain.State) { s.Chains = append(s.Chains, nil) })
	m("no chains", func(s *chain.State) { s.Chains = nil })
	return out
}

// P22.1, P22.2: states that may not be, each for one reason.
func TestStatesThatMayNotBe(t *testing.T) {
	for why, x := range wrongs() {
		forbids(t, x.c, x.s, why)
		refuses(t, laid(x.c, x.s), why)
	}
	for _, x := range []store{quarters(), eighths(), chains()} {
		writes(t, x.c, x.s, laid(x.c, x.s))
		// numbers below 0, and such as do not fit where they are to stand
		for i, spoil := range []func(s *engine.State){
			func(s *engine.State) { s.Grid.Turn = -1 }, func(s *engine.State) { s.Excell.Depth = -1 }, func(s *engine.State) { s.Excell.Depth += 256 }, func(s *engine.State) { s.Molhpe.Level = -1 }, func(s *engine.State) { s.Molhpe.Level += 256 }, func(s *engine.State) { s.Molhpe.Next = -1 }, func(s *engine.State) { s.Molhpe.Next += 65536 },
			// something of another variant
			func(s *engine.State) {
				s.Grid.Scale, s.Excell.Cells, s.Molhpe.Chains = "\x00", []int{0}, make([][]api.Record, 1)
			},
			func(s *engine.State) { s.Grid.Turn, s.Excell.Depth, s.Molhpe.Level = 65536, 1, 1 },
		} {
			y := copiedState(x.s)
			spoil(&y)
			forbids(t, x.c, y, "case "+strconv.Itoa(i))
		}
		for _, other := range []store{quarters(), eighths(), chains()} {
			if other.c.Variant != x.c.Variant {
				forbids(t, x.c, other.s, "a state of another variant")
			}
		}
	}
	both := quarters()
	both.s.Excell = eighths().s.Excell
	forbids(t, both.c, both.s, "two states")
}

// bases are stores whose pages are spoiled: small ones, and such as have several pages of each kind.
func bases(t *testing.T) []store {
	t.Helper()
	out := []store{quarters(), eighths(), chains()}
	for _, variant := range variants() {
		out = append(out, blank(t, conf(variant, 1, 2, 4)))
		var l []api.Record
		for i := range 40 {
			l = append(l, rec(strings.Repeat("z", i%9), uint32(i*i)<<21, uint32(i*7)<<24))
		}
		out = append(out, filled(t, conf(variant, 2, 3, 200), l...))
	}
	var lists [][]api.Record
	for i := range 64 {
		lists = append(lists, []api.Record{rec("", uint32(10*i), 5), rec("x", uint32(10*i)+9, 19)})
	}
	cells := make([]int, 128)
	for i := range cells {
		cells[i] = i / 2
	}
	return append(out,
		store{conf(api.Grid, 2, 3, 99), gridded([]int{64, 2}, cells, lists...)},
		store{conf(api.Excell, 1, 2, 99), excelled(7, slices.Concat(make([]int, 64), slices.Repeat([]int{1}, 32), slices.Repeat([]int{2}, 32)), row(2), []api.Record{rec("", half)}, []api.Record{rec("", most)})},
		store{conf(api.Molhpe, 1, 2, 299), chained(7, 2, append(make([][]api.Record, 129), []api.Record{rec("", most-2), rec("", most-1), rec("", most)})...)})
}

// basesPages are those of bases.
func basesPages(t *testing.T) [][]api.Page {
	t.Helper()
	var out [][]api.Page
	for _, x := range bases(t) {
		writes(t, x.c, x.s, laid(x.c, x.s))
		out = append(out, laid(x.c, x.s))
	}
	return out
}

// P22.2: no pages, one missing, one too many.
func TestPagesThatAreMissing(t *testing.T) {
	refuses(t, nil, "no pages")
	refuses(t, []api.Page{}, "no pages")
	for _, l := range basesPages(t) {
		for i := range l {
			refuses(t, l[:i], "the first ones")
			refuses(t, slices.Delete(slices.Clone(l), i, i+1), "one is missing")
			refuses(t, numbered(slices.Delete(slices.Clone(l), i, i+1)), "one is missing")
			refuses(t, slices.Insert(slices.Clone(l), i, l[i]), "one twice")
			refuses(t, numbered(slices.Insert(slices.Clone(l), i, l[i])), "one twice")
		}
		for kind := -1; kind <= 6; kind++ {
			for _, body := range []string{"", "\x00", "\x00\x00", "\x00\x01", l[0].Body, l[len(l)-1].Body, strings.Repeat("\x00", 200)} {
				for i := range len(l) + 1 {
					refuses(t, numbered(slices.Insert(slices.Clone(l), i, api.Page{Kind: kind, Body: body})), "one too many")
				}
				refuses(t, []api.Page{{Kind: kind, Body: body}}, "one page")
			}
		}
		refuses(t, slices.Concat(l, l), "all twice")
		refuses(t, numbered(slices.Concat(l, l)), "all twice")
	}
}

// P22.2: in another order.
func TestPagesInAnotherOrder(t *testing.T) {
	for _, l := range basesPages(t) {
		for i := range l {
			for j := range i {
				other := slices.Clone(l)
				other[i], other[j] = other[j], other[i]
				refuses(t, other, "another order")
				numbered(other)
				if !slices.Equal(other, l) {
					refuses(t, other, "another order, numbered")
				}
			}
		}
		other := slices.Clone(l)
		slices.Reverse(other)
		refuses(t, other, "the last one first")
		refuses(t, numbered(other), "the last one first")
		refuses(t, numbered(slices.Concat(l[:1], other[:len(other)-1])), "the last one behind the first one")
	}
}

// P22.2: another Kind, another Number.
func TestPagesOfAnotherKind(t *testing.T) {
	for _, l := range basesPages(t) {
		for i := range l {
			for _, n := range []int{math.MinInt, -1, 0, 1, 2, 3, 4, 5, 6, 257, 1 << 32, math.MaxInt} {
				other := slices.Clone(l)
				if other[i].Kind = n; n != l[i].Kind {
					refuses(t, other, "Kind")
				}
			}
			for _, n := range []int{math.MinInt, -1, 0, 1, i - 1, i + 1, i + 256, i + 1<<16, i + 1<<32, math.MaxInt} {
				other := slices.Clone(l)
				if other[i].Number = n; n != i {
					refuses(t, other, "Number")
				}
			}
		}
		other := slices.Clone(l)
		for i := range other {
			other[i].Number++
		}
		refuses(t, other, "numbered from 1 on")
	}
}

// P22.2: a byte more, a byte less, at the end and at the beginning.
func TestPagesOfOtherSizes(t *testing.T) {
	for _, l := range basesPages(t) {
		for i, p := range l {
			for _, body := range []string{"", p.Body[1:], p.Body[:len(p.Body)-1], p.Body + "\x00", p.Body + "\xff", p.Body + p.Body[len(p.Body)-1:], "\x00" + p.Body, p.Body[:1] + p.Body, p.Body + p.Body, p.Body + strings.Repeat("\x00", 5000)} {
				other := slices.Clone(l)
				other[i].Body = body
				refuses(t, other, "another size")
			}
		}
	}
}

// P22.2, P22.3: each byte turned, one at a time: if such pages may be, they are what Encode makes of what they tell.
func TestPagesWithAByteTurned(t *testing.T) {
	may := 0
	for _, l := range basesPages(t) {
		for i, p := range l {
			for at := range p.Body {
				for _, turned := range []byte{1, 2, 0x80, 0xff} {
					other := slices.Clone(l)
					other[i].Body = p.Body[:at] + string([]byte{p.Body[at] ^ turned}) + p.Body[at+1:]
					if reads(t, other) {
						may++
					}
					if i == 0 && at < 4 || i == 0 && len(p.Body) == 17 && at >= 11 {
						refuses(t, other, "a byte turned")
					}
				}
			}
		}
	}
	if may == 0 {
		t.Error("none of them may be")
	}
}

// P22.2: pages of states that may be, written otherwise than Encode writes them.
func TestPagesWrittenOtherwise(t *testing.T) {
	write := func(why string, x store, change func(p pages) pages) {
		t.Helper()
		writes(t, x.c, x.s, laid(x.c, x.s))
		refuses(t, numbered(change(laid(x.c, x.s))), why)
	}
	// bodies puts others, of the kind of the page there, in the place of some pages
	bodies := func(p pages, from int, to int, others ...string) pages {
		var l []api.Page
		for _, body := range others {
			l = append(l, api.Page{Kind: p[from].Kind, Body: body})
		}
		return slices.Replace(slices.Clone(p), from, to, l...)
	}
	long := store{conf(api.Grid, 5, 2, 99), gridded([]int{51, 2, 1, 1, 1}, nil, nil)}
	scale, directory := long.s.Grid.Scale, num(2, long.s.Grid.Cells...)
	write("a Scale of one page", long, func(p pages) pages { return bodies(p, 1, 3, scale) })
	write("a Scale cut elsewhere", long, func(p pages) pages { return bodies(p, 1, 3, scale[:199], scale[199:]) })
	write("a Scale of three pages", long, func(p pages) pages { return bodies(p, 1, 3, scale[:100], scale[100:200], scale[200:]) })
	write("a Scale with an empty page", long, func(p pages) pages { return bodies(p, 1, 3, scale[:200], scale[200:], "") })
	write("a directory of one page", long, func(p pages) pages { return bodies(p, 3, 5, directory) })
	write("a directory cut elsewhere", long, func(p pages) pages { return bodies(p, 3, 5, directory[:198], directory[198:]) })
	write("a directory of three pages", long, func(p pages) pages { return bodies(p, 3, 5, directory[:100], directory[100:200], directory[200:]) })
	write("a directory with an empty page", long, func(p pages) pages { return bodies(p, 3, 5, directory[:200], directory[200:], "") })
	write("a directory cut in a number", long, func(p pages) pages { return bodies(p, 3, 5, directory[:199], directory[199:]) })
	write("a directory ahead of Scale", long, func(p pages) pages { return slices.Concat(p[:1], p[3:5], p[1:3], p[5:]) })
	write("buckets ahead of the directory", eighths(), func(p pages) pages { return slices.Concat(p[:1], p[2:], p[1:2]) })
	write("numbers of four bytes", eighths(), func(p pages) pages { return bodies(p, 1, 2, num(4, 1, 1, 0, 2)) })
	write("numbers the lowest byte first", eighths(), func(p pages) pages { return bodies(p, 1, 2, "\x01\x00\x01\x00\x00\x00\x02\x00") })
	write("a Scale of EXCELL", eighths(), func(p pages) pages { return bodies(p, 0, 1, p[0].Body+"\x00\x00") })

	c, d, e := rec("c", half), rec("d", half+1), rec("e", most)
	write("a chain cut elsewhere", chains(), func(p pages) pages { return bodies(p, 4, 6, text(c), text(d, e)) })
	write("a chain of one page", chains(), func(p pages) pages { return bodies(bodies(p, 4, 6, text(c, d, e)), 1, 2, num(2, 1, 1, 1)) })
	write("a chain of three pages", chains(), func(p pages) pages {
		return bodies(bodies(p, 4, 6, text(c), text(d), text(e)), 1, 2, num(2, 1, 1, 3))
	})
	write("a chain with an empty page", chains(), func(p pages) pages {
		return bodies(bodies(p, 4, 6, text(c, d), text(e), text()), 1, 2, num(2, 1, 1, 3))
	})
	write("a chain without a page", chains(), func(p pages) pages { return slices.Delete(bodies(p, 1, 2, num(2, 1, 0, 2)), 3, 4) })
	write("a page of the next chain", chains(), func(p pages) pages { return bodies(p, 1, 2, num(2, 1, 2, 1)) })
	write("pages of no chain", chains(), func(p pages) pages { return bodies(p, 1, 2, num(2, 1, 1, 1)) })
	write("pages that there are not", chains(), func(p pages) pages { return bodies(p, 1, 2, num(2, 1, 1, 3)) })
	write("pages that there are not, very many", chains(), func(p pages) pages { return bodies(p, 1, 2, num(2, 1, 1, 65535)) })
	write("no number of the last chain", chains(), func(p pages) pages { return bodies(p, 1, 2, num(2, 1, 1)) })
	write("a bucket that falls", chains(), func(p pages) pages { return bodies(p, 4, 5, text(d, c)) })
	write("a Key twice in a bucket", chains(), func(p pages) pages { return bodies(p, 4, 5, text(c, c)) })
	write("a Key in two pages", chains(), func(p pages) pages { return bodies(p, 5, 6, text(d)) })
	write("other letters", chains(), func(p pages) pages { return bodies(p, 0, 1, "cada"+p[0].Body[4:]) })
}

// R1, P22.2: pages of any kind, of any size.
func TestAnyPages(t *testing.T) {
	for _, size := range []int{0, 3, 4, 8, 9, 12, 17, 244, 4096, 4097, 70000} {
		for _, fill := range []string{"\x00", "\x01", "\x02", "\x03", "\xff"} {
			for _, start := range []string{"", "CADA", head(conf(1, 1, 2, 999)), head(conf(2, 1, 2, 999)), head(conf(3, 1, 2, 999)), head(conf(3, 1, 2, 999)) + "\x0a\x03\xff"} {
				body := start + strings.Repeat(fill, size)
				reads(t, []api.Page{{Kind: api.PageSuper, Body: body}})
				for kind := -1; kind <= 6; kind++ {
					rest := api.Page{Kind: kind, Number: 1, Body: strings.Repeat(fill, size)}
					reads(t, []api.Page{{Kind: api.PageSuper, Body: body}, rest, {Kind: api.PageDir, Number: 2, Body: rest.Body}, {Kind: api.PageBucket, Number: 3, Body: rest.Body}})
				}
			}
		}
	}
	long := slices.Repeat([]api.Page{{Kind: api.PageDir, Body: strings.Repeat("\xff", 244)}}, 5000)
	reads(t, numbered(long))
	long[0] = api.Page{Kind: api.PageSuper, Body: head(conf(3, 1, 2, 999)) + "\x0a\x03\xff"}
	reads(t, numbered(long))
}

// record is any one, near others or far from them.
func record(r *rand.Rand, dim int) api.Record {
	k := make(api.Key, dim)
	for at := range k {
		k[at] = r.Uint32() >> (8 * r.Intn(3))
	}
	return api.Record{Key: k, Data: strings.Repeat("x", r.Intn(41))}
}

// P22.3: what is written is read, of stores to which very much was done; pages that are spoiled in several places tell what they are written of.
func TestManyStores(t *testing.T) {
	for seed := range int64(60) {
		r := rand.New(rand.NewSource(seed))
		dim := 1 + r.Intn(6)
		c := conf(1+int(seed)%3, dim, []int{2, 3, 7, 16}[r.Intn(4)], []int{30, 300, 999}[r.Intn(3)])
		x, _ := engine.New(c)
		for range 12 {
			for range r.Intn(40) {
				x.Put(record(r, dim))
			}
			if all := x.All(); len(all) > 0 {
				for range r.Intn(30) {
					x.Delete(all[r.Intn(len(all))].Key)
				}
			}
			s := x.State()
			l := laid(c, s)
			writes(t, c, s, l)
			_, z, _ := image.Decode(l)
			if y, e := engine.Of(c, z); e != api.OK || !sameRecords(y.All(), x.All()) || y.Pages() != x.Pages() {
				t.Fatalf("%v: %d", z, e)
			}
			for range 20 {
				reads(t, spoiled(r, l))
			}
		}
	}
}

// spoiled are pages of which a few things are turned.
func spoiled(r *rand.Rand, l []api.Page) []api.Page {
	l = slices.Clone(l)
	for range 1 + r.Intn(3) {
		i, j := r.Intn(len(l)), r.Intn(len(l))
		b := []byte(l[i].Body)
		switch r.Intn(6) {
		case 0:
			l[i].Body, l[j].Body = l[j].Body, l[i].Body
		case 1:
			l[i].Kind = r.Intn(6)
		default:
			if len(b) > 0 {
				b[r.Intn(len(b))] ^= 1 << r.Intn(8)
			}
			l[i].Body = string(b)
		}
	}
	return l
}

// greatest are stores of as many pages as a config of so many lets them have.
func greatest(t *testing.T, pages int) []store {
	t.Helper()
	// 1024 cells have 11 pages, a grid's bounds 2
	buckets := pages - 1 - 2 - 11
	cells := slices.Concat(make([]int, 1024-buckets), rising(buckets))
	slices.Sort(cells[:1024-buckets+1])
	full := slices.Repeat([][]api.Record{nil}, buckets)
	full[buckets-1] = []api.Record{rec(strings.Repeat("x", 40), 999, 999), rec(strings.Repeat("y", 40), most, most)}
	g := store{conf(api.Grid, 2, 2, pages), gridded([]int{16, 64}, cells, full...)}

	blocks := pages - 1 - 11
	double := 1024 - blocks
	cells = nil
	for n := range blocks {
		cells = append(cells, n)
		if n < double {
			cells = append(cells, n)
		}
	}
	x := store{conf(api.Excell, 6, 2, pages), excelled(10, cells, make([][]api.Record, blocks)...)}

	n := pages - 1
	many := store{conf(api.Molhpe, 6, 16, pages), chained(9, n-512, make([][]api.Record, n)...)}
	one := store{conf(api.Molhpe, 1, 2, pages), chained(0, 0, row(2*n))}
	var big []api.Record
	for i := range 3 * n {
		big = append(big, rec(strings.Repeat("x", 40), uint32(i), 1, 2, 3, 4, 5))
	}
	wide := store{conf(api.Molhpe, 6, 3, pages), chained(0, 0, big)}
	return []store{g, x, many, one, wide}
}

// P22.3: each page of a config of at most 980 Pages may be staged.
func TestPagesMayBeStaged(t *testing.T) {
	stores := append(greatest(t, 980), bases(t)...)
	for i, x := range stores {
		l, e := image.Encode(x.c, x.s)
		if e != api.OK || i < 5 && len(l) < 980 {
			t.Fatalf("%v: %d pages, %d", x.c, len(l), e)
		}
		writes(t, x.c, x.s, laid(x.c, x.s))
		for n, p := range l {
			if e := entry.Check(entry.Entry{Kind: entry.Stage, Tx: 1, Index: n, Page: p}); e != api.OK || p.Kind == api.PageFree {
				t.Errorf("%v: page %d, %s: %d", x.c, n, shown(l[n:n+1]), e)
			}
		}
	}
	// of more Pages they are written likewise, however great their numbers are
	for _, x := range greatest(t, 999) {
		writes(t, x.c, x.s, laid(x.c, x.s))
	}
}

// shares is whether a text stands in the memory of another one.
func shares(s string, given string) bool {
	from, at := uintptr(unsafe.Pointer(unsafe.StringData(given))), uintptr(unsafe.Pointer(unsafe.StringData(s)))
	return s != "" && at >= from && at < from+uintptr(len(given))
}

// spoil expects that lists of records share no memory with one another, nor with a text; then it spoils them, and their spare room.
func spoil(t *testing.T, l [][]api.Record, given ...string) {
	t.Helper()
	for _, records := range l {
		for _, r := range records {
			if slices.ContainsFunc(given, func(s string) bool { return shares(r.Data, s) }) {
				t.Errorf("the text %q is shared", r.Data)
			}
			if slices.Contains(r.Key, 12345) {
				t.Fatal("two Keys share their memory")
			}
			for at := range r.Key[:cap(r.Key)] {
				r.Key[:cap(r.Key)][at] = 12345
			}
		}
		records = records[:cap(records)]
		for i := range records {
			if records[i].Data == "spoiled" {
				t.Fatal("two lists share their memory")
			}
			records[i] = rec("spoiled", 77)
		}
	}
	clear(l[:cap(l)])
}

func spoilState(t *testing.T, s engine.State, given ...string) {
	t.Helper()
	if slices.ContainsFunc(given, func(text string) bool { return shares(s.Grid.Scale, text) }) {
		t.Errorf("the Scale is shared")
	}
	for _, cells := range [][]int{s.Grid.Cells, s.Excell.Cells} {
		cells = cells[:cap(cells)]
		for i := range cells {
			cells[i] = 12345
		}
	}
	for _, l := range [][][]api.Record{s.Grid.Buckets, s.Excell.Buckets, s.Molhpe.Chains} {
		spoil(t, l, given...)
	}
}

// R5: what is handed in is not changed and not kept; what is told is new.
func TestNothingIsShared(t *testing.T) {
	for _, x := range bases(t) {
		s := copiedState(x.s)
		want := laid(x.c, x.s)
		l, e := image.Encode(x.c, s)
		if e != api.OK || !same(s, x.s) {
			t.Fatalf("Encode has changed %v to %v, %d", x.s, s, e)
		}
		for _, p := range l {
			if shares(p.Body, s.Grid.Scale) {
				t.Errorf("a page shares the Scale")
			}
		}
		spoilState(t, s)
		if !slices.Equal(l, want) {
			t.Fatalf("%s, want %s", shown(l), shown(want))
		}
		clear(l[:cap(l)])
		if l, _ = image.Encode(x.c, x.s); !slices.Equal(l, want) {
			t.Fatalf("%s, want %s", shown(l), shown(want))
		}
		var bodies []string
		for _, p := range l {
			bodies = append(bodies, p.Body)
		}
		c, z, e := image.Decode(l)
		if e != api.OK || !slices.Equal(l, want) {
			t.Fatalf("Decode has changed %s to %s, %d", shown(want), shown(l), e)
		}
		clear(l)
		if c != x.c || !same(z, x.s) {
			t.Fatalf("%v, %v, want %v, %v", c, z, x.c, x.s)
		}
		spoilState(t, z, bodies...)
		if c, z, e := image.Decode(want); c != x.c || !same(z, x.s) || e != api.OK {
			t.Fatalf("%v, %v, %d, want %v, %v", c, z, e, x.c, x.s)
		}
	}
}
