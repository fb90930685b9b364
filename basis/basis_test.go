package basis_test

import (
	"math"
	"slices"
	"strings"
	"testing"

	"cadastre/api"
	"cadastre/basis"
	"cadastre/key"
)

func rec(data string, k ...uint32) api.Record { return api.Record{Key: k, Data: data} }

func TestMay(t *testing.T) {
	for _, x := range []struct {
		what        string
		least, most int
		of          func(n int) api.Config
	}{
		{"Dim", 1, 6, func(n int) api.Config { return api.Config{Dim: n, Cap: 2, Pages: 4} }},
		{"Cap", 2, 16, func(n int) api.Config { return api.Config{Variant: api.Grid, Dim: 6, Cap: n, Pages: 999} }},
		{"Pages", 4, 999, func(n int) api.Config { return api.Config{Variant: 99, Dim: 1, Cap: 16, Pages: n} }},
	} {
		for n := -5; n < 1005; n++ {
			if may := basis.May(x.of(n)); may != (n >= x.least && n <= x.most) {
				t.Errorf("%s %d: %t", x.what, n, may)
			}
		}
		for _, n := range []int{math.MinInt, 1<<32 + x.least, math.MaxInt} {
			if basis.May(x.of(n)) {
				t.Errorf("%s %d may be", x.what, n)
			}
		}
	}
}

func TestBegun(t *testing.T) {
	for _, x := range [][3]int{{0, 100, 0}, {1, 100, 1}, {99, 100, 1}, {100, 100, 1}, {101, 100, 2}, {4096, basis.CellsToPage, 41}, {200, 200, 1}, {201, 200, 2}, {7, 1, 7}} {
		if n := basis.Begun(x[0], x[1]); n != x[2] {
			t.Errorf("Begun(%d, %d): %d, want %d", x[0], x[1], n, x[2])
		}
	}
}

func TestFit(t *testing.T) {
	c := api.Config{Dim: 2, Cap: 2, Pages: 9}
	good := []api.Record{rec("a", 1, 2), rec(strings.Repeat("x", 40), 1, 3)}
	for _, l := range [][][]api.Record{nil, {nil}, {good}, {good, nil, good}} {
		if !basis.Fit(c, l) {
			t.Errorf("%v does not fit", l)
		}
	}
	for _, wrong := range [][]api.Record{{rec("", 1)}, {rec("", 1, 2, 3)}, {rec("", 1, 2), rec("", 1, 2)}, {rec("", 1, 3), rec("", 1, 2)}, {rec("", 1, 2), rec("", 1, 3), rec("", 1, 4)}, {rec(strings.Repeat("x", 41), 1, 2)}} {
		for _, l := range [][][]api.Record{{wrong}, {good, wrong}, {wrong, nil}} {
			if basis.Fit(c, l) {
				t.Errorf("%v fits", l)
			}
		}
	}
}

func TestPlaced(t *testing.T) {
	number := func(k api.Key) int { return int(k[0]) / 10 }
	for _, l := range [][][]api.Record{nil, {nil}, {nil, {rec("", 10)}}, {{rec("", 9), rec("", 0)}, nil, {rec("", 29)}}} {
		if !basis.Placed(l, number) {
			t.Errorf("%v is not placed", l)
		}
	}
	for _, l := range [][][]api.Record{{{rec("", 10)}}, {nil, {rec("", 9)}}, {{rec("", 0), rec("", 10)}, {rec("", 11)}}, {{rec("", 0)}, nil, {rec("", 20), rec("", 30)}}} {
		if basis.Placed(l, number) {
			t.Errorf("%v is placed", l)
		}
	}
}

func TestGet(t *testing.T) {
	l := []api.Record{rec("a", 1), rec("", 5), rec("b", 9)}
	for _, x := range []struct {
		k    api.Key
		data string
		e    api.Errno
	}{{api.Key{1}, "a", api.OK}, {api.Key{5}, "", api.OK}, {api.Key{9}, "b", api.OK}, {api.Key{0}, "", api.NotFound}, {api.Key{6}, "", api.NotFound}, {api.Key{10}, "", api.NotFound}} {
		if data, e := basis.Get(l, x.k); data != x.data || e != x.e {
			t.Errorf("Get(%v): %q, %d", x.k, data, e)
		}
	}
	if data, e := basis.Get(nil, api.Key{1}); data != "" || e != api.NotFound {
		t.Errorf("Get of no records: %q, %d", data, e)
	}
}

func TestEmpty(t *testing.T) {
	for _, l := range [][][]api.Record{nil, {nil}, {nil, {}}} {
		if !basis.Empty(l) {
			t.Errorf("%v is not empty", l)
		}
	}
	for _, l := range [][][]api.Record{{{rec("", 1)}}, {nil, {rec("", 1)}}, {{rec("", 1)}, nil}} {
		if basis.Empty(l) {
			t.Errorf("%v is empty", l)
		}
	}
}

func TestWithin(t *testing.T) {
	l := [][]api.Record{{rec("a", 5, 0), rec("b", 9, 9)}, nil, {rec("c", 0, 7), rec("d", 5, 8)}, {rec("e", 4, 9)}}
	for _, x := range []struct {
		b    api.Box
		want string
	}{
		{key.Whole(2), "ceadb"}, {api.Box{Low: api.Key{4, 0}, High: api.Key{5, 8}}, "ad"}, {api.Box{Low: api.Key{0, 9}, High: api.Key{9, 9}}, "eb"}, {api.Box{Low: api.Key{6, 0}, High: api.Key{8, 9}}, ""},
	} {
		have := basis.Within(l, x.b)
		told := ""
		for _, r := range have {
			told += r.Data
			clear(r.Key)
		}
		clear(have)
		if told != x.want {
			t.Errorf("%v: %q, want %q", x.b, told, x.want)
		}
	}
	if !slices.Equal(l[0][0].Key, api.Key{5, 0}) || l[3][0].Data != "e" {
		t.Errorf("what was told is shared: %v", l)
	}
}
