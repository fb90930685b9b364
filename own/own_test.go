package own_test

import (
	"slices"
	"testing"
	"unsafe"

	"cadastre/api"
	"cadastre/own"
)

func TestRecord(t *testing.T) {
	for _, r := range []api.Record{{}, {Key: api.Key{1}}, {Data: "x"}, {Key: api.Key{1, 2, 3}, Data: "a longer text"}} {
		c := own.Record(r)
		if !slices.Equal(c.Key, r.Key) || c.Data != r.Data {
			t.Fatalf("Record(%v): %v", r, c)
		}
		if r.Data != "" && unsafe.StringData(c.Data) == unsafe.StringData(r.Data) {
			t.Errorf("the copy of %v shares its Data", r)
		}
		for i := range c.Key {
			c.Key[i] = 99
		}
		if slices.Contains(r.Key, 99) {
			t.Errorf("the copy of %v shares its Key", r)
		}
	}
}

func TestRecords(t *testing.T) {
	if l := own.Records(nil); len(l) != 0 {
		t.Errorf("Records(nil): %v", l)
	}
	k := api.Key{1, 2}
	l := []api.Record{{Key: k, Data: "x"}, {Key: k, Data: "y"}, {Key: k[:1]}}
	c := own.Records(l)
	if len(c) != 3 || c[0].Data != "x" || c[1].Data != "y" || !slices.Equal(c[1].Key, k) || !slices.Equal(c[2].Key, k[:1]) {
		t.Fatalf("Records(%v): %v", l, c)
	}
	c[0].Key[0] = 7
	c[2] = api.Record{}
	if k[0] != 1 || c[1].Key[0] != 1 || len(l[2].Key) != 1 {
		t.Errorf("the copies share something: %v, %v", l, c)
	}
}

func TestLists(t *testing.T) {
	if l := own.Lists(nil); len(l) != 0 {
		t.Errorf("Lists(nil): %v", l)
	}
	l := [][]api.Record{{{Key: api.Key{1}, Data: "x"}}, nil, {{Key: api.Key{2}}, {Key: api.Key{3}}}}
	c := own.Lists(l)
	if len(c) != 3 || len(c[0]) != 1 || c[0][0].Key[0] != 1 || c[0][0].Data != "x" || len(c[1]) != 0 || len(c[2]) != 2 || c[2][1].Key[0] != 3 {
		t.Fatalf("Lists(%v): %v", l, c)
	}
	c[0][0].Key[0] = 7
	c[2][0] = api.Record{}
	c[1] = nil
	if l[0][0].Key[0] != 1 || l[2][0].Key[0] != 2 {
		t.Errorf("the copies share something: %v, %v", l, c)
	}
}
