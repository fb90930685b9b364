package bucket_test

import (
	"encoding/binary"
	"math"
	"math/rand"
	"slices"
	"strings"
	"testing"
	"unsafe"

	"cadastre/api"
	"cadastre/bucket"
)

const most = math.MaxUint32

// wrongDims are numbers of coordinates that no point may have, wrongCaps numbers of records that no bucket takes.
var (
	wrongDims = []int{math.MinInt, -6, -1, 0, 7, 8, 100, 1<<32 + 1, math.MaxInt}
	wrongCaps = []int{math.MinInt, -2, -1, 0, 1, 17, 18, 255, 258, 1<<32 + 2, math.MaxInt}
)

// rec is a record, written short.
func rec(data string, k ...uint32) api.Record { return api.Record{Key: k, Data: data} }

// row is a bucket of so many records of so many coordinates, each with so many bytes.
func row(count int, dim int, size int) []api.Record {
	var out []api.Record
	for i := range count {
		k := slices.Repeat(api.Key{most - 5}, dim)
		k[dim-1] = uint32(i) << 20
		out = append(out, api.Record{Key: k, Data: strings.Repeat(string(rune('a'+i%26)), size)})
	}
	return out
}

func same(a []api.Record, b []api.Record) bool {
	return slices.EqualFunc(a, b, func(a api.Record, b api.Record) bool {
		return slices.Equal(a.Key, b.Key) && a.Data == b.Data
	})
}

// copied shares nothing with l.
func copied(l []api.Record) []api.Record {
	var out []api.Record
	for _, r := range l {
		out = append(out, api.Record{Key: slices.Clone(r.Key), Data: r.Data})
	}
	return out
}

// sized, encoded, isBucket and may say it word by word as the document does.
func sized(l []api.Record) int {
	n := 1
	for _, r := range l {
		n += 4*len(r.Key) + 1 + len(r.Data)
	}
	return n
}

func encoded(l []api.Record) string {
	out := []byte{byte(len(l))}
	for _, r := range l {
		for _, c := range r.Key {
			out = binary.BigEndian.AppendUint32(out, c)
		}
		out = append(out, byte(len(r.Data)))
		out = append(out, r.Data...)
	}
	return string(out)
}

func isBucket(l []api.Record) bool {
	for i := range l {
		if i > 0 && slices.Compare(l[i-1].Key, l[i].Key) >= 0 {
			return false
		}
	}
	return true
}

func may(l []api.Record, dim int, cap int) bool {
	for _, r := range l {
		if len(r.Key) != dim || dim < 1 || dim > 6 || len(r.Data) > 40 {
			return false
		}
	}
	return isBucket(l) && cap >= 2 && cap <= 16 && len(l) <= cap && sized(l) <= 230
}

// P10.1
func TestSize(t *testing.T) {
	for _, x := range []struct {
		l    []api.Record
		want int
	}{
		{nil, 1}, {[]api.Record{}, 1}, {[]api.Record{rec("x", 1)}, 7}, {[]api.Record{rec("", 1)}, 6}, {[]api.Record{rec("abc", 1, 2, 3, 4, 5, 6)}, 29},
		{[]api.Record{rec("x", 1), rec("", 2)}, 12}, {[]api.Record{{}}, 2}, {[]api.Record{{}, {Data: "four"}, rec("", 1, 2, 3, 4, 5, 6, 7)}, 36},
		{[]api.Record{rec("é", 1)}, 8}, {[]api.Record{rec(strings.Repeat("x", 1000), 1)}, 1006},
	} {
		if n := bucket.Size(x.l); n != x.want || n != sized(x.l) {
			t.Errorf("Size(%v): %d, want %d", x.l, n, x.want)
		}
	}
	for count := range 20 {
		for dim := 1; dim <= 6; dim++ {
			for _, size := range []int{0, 1, 39, 40, 41} {
				if n := bucket.Size(row(count, dim, size)); n != 1+count*(4*dim+1+size) {
					t.Errorf("Size of %d records: %d", count, n)
				}
			}
		}
	}
}

// P10.1: to the byte, and to the record.
func TestFits(t *testing.T) {
	if bucket.MostBytes != 230 {
		t.Errorf("MostBytes: %d", bucket.MostBytes)
	}
	for count := range 20 {
		for dim := 1; dim <= 6; dim++ {
			for size := range 42 {
				l := row(count, dim, size)
				for _, cap := range []int{math.MinInt, -1, 0, 1, 2, count - 1, count, count + 1, 16, 17, 100, math.MaxInt} {
					want := count <= cap && 1+count*(4*dim+1+size) <= 230
					if fits := bucket.Fits(l, cap); fits != want {
						t.Errorf("Fits of %d records of %d coordinates and %d bytes, %d: %t", count, dim, size, cap, fits)
					}
				}
			}
		}
	}
	exact := row(4, 4, 40) // 229 bytes
	exact[3].Data += "x"
	if !bucket.Fits(exact, 4) || bucket.Size(exact) != 230 {
		t.Errorf("230 bytes do not fit: %d", bucket.Size(exact))
	}
	exact[0].Data += "x"
	if bucket.Fits(exact, 4) || bucket.Size(exact) != 231 {
		t.Errorf("231 bytes fit: %d", bucket.Size(exact))
	}
}

// P10.4: two records of at most 40 bytes always fit.
func TestTwoFit(t *testing.T) {
	for dim := 1; dim <= 6; dim++ {
		l := row(2, dim, 40)
		for cap := 2; cap <= 16; cap++ {
			if s, e := bucket.Encode(l, dim, cap); !bucket.Fits(l, cap) || s != encoded(l) || e != api.OK {
				t.Errorf("two of %d coordinates do not fit into %d: %d", dim, cap, e)
			}
		}
	}
}

// P10.2: by hand.
func TestEncodeByHand(t *testing.T) {
	for _, x := range []struct {
		l    []api.Record
		dim  int
		want string
	}{
		{nil, 1, "\x00"}, {[]api.Record{}, 6, "\x00"},
		{[]api.Record{rec("x", 1)}, 1, "\x01\x00\x00\x00\x01\x01x"},
		{[]api.Record{rec("", most)}, 1, "\x01\xff\xff\xff\xff\x00"},
		{[]api.Record{rec("\x00ab", 0x01020304, 0xa0b0c0d0)}, 2, "\x01\x01\x02\x03\x04\xa0\xb0\xc0\xd0\x03\x00ab"},
		{[]api.Record{rec("", 1, 9), rec("é", 2, 0)}, 2, "\x02\x00\x00\x00\x01\x00\x00\x00\x09\x00\x00\x00\x00\x02\x00\x00\x00\x00\x02\xc3\xa9"},
	} {
		s, e := bucket.Encode(x.l, x.dim, 2)
		if s != x.want || e != api.OK {
			t.Errorf("Encode(%v): %x, %d, want %x", x.l, s, e, x.want)
		}
		l, e := bucket.Decode(x.want, x.dim, 2)
		if !same(l, x.l) || e != api.OK {
			t.Errorf("Decode(%x): %v, %d, want %v", x.want, l, e, x.l)
		}
	}
}

// buckets are some of so many coordinates, that fit into a page.
func buckets(dim int) [][]api.Record {
	out := [][]api.Record{nil}
	for count := 1; count <= 16; count++ {
		for _, size := range []int{0, 1, 2, 17, 39, 40} {
			if l := row(count, dim, size); sized(l) <= 230 {
				out = append(out, l)
			}
		}
	}
	mixed := []api.Record{{Key: make(api.Key, dim), Data: "\x00\xff"}, {Key: slices.Repeat(api.Key{1}, dim)}, {Key: slices.Repeat(api.Key{most}, dim), Data: strings.Repeat("\x00", 40)}}
	return append(out, mixed)
}

// P10.2, P10.4: what is written is read, in every size of bucket that takes it.
func TestEncode(t *testing.T) {
	for dim := 1; dim <= 6; dim++ {
		for _, l := range buckets(dim) {
			for cap := 2; cap <= 16; cap++ {
				s, e := bucket.Encode(l, dim, cap)
				if len(l) > cap {
					if s != "" || e != api.BadRequest {
						t.Errorf("Encode of %d records, %d: %x, %d", len(l), cap, s, e)
					}
					continue
				}
				if s != encoded(l) || e != api.OK || len(s) != bucket.Size(l) {
					t.Errorf("Encode(%v, %d, %d): %x, %d", l, dim, cap, s, e)
				}
				if back, e := bucket.Decode(s, dim, cap); !same(back, l) || e != api.OK {
					t.Errorf("Decode(%x, %d, %d): %v, %d, want %v", s, dim, cap, back, e, l)
				}
			}
		}
	}
}

// P10.2, R3
func TestEncodeRefuses(t *testing.T) {
	refuse := func(l []api.Record, dim int, cap int) {
		t.Helper()
		if s, e := bucket.Encode(l, dim, cap); s != "" || e != api.BadRequest {
			t.Errorf("Encode(%v, %d, %d): %x, %d", l, dim, cap, s, e)
		}
	}
	for dim := 1; dim <= 6; dim++ {
		for _, l := range buckets(dim) {
			for _, cap := range wrongCaps {
				refuse(l, dim, cap)
			}
			if len(l) == 0 {
				continue
			}
			for _, wrong := range append([]int{dim - 1, dim + 1}, wrongDims...) {
				refuse(l, wrong, 16)
			}
		}
		for count := 3; count <= 17; count++ {
			if l := row(count, dim, 40); sized(l) > 230 {
				refuse(l, dim, 16)
			}
		}
		refuse(row(17, dim, 0), dim, 16)
		refuse(row(1, dim, 41), dim, 16)
		refuse([]api.Record{{Key: make(api.Key, dim)}, {Key: make(api.Key, dim+1)}}, dim, 16)
		refuse([]api.Record{{}, {Key: make(api.Key, dim)}}, dim, 16)
	}
	for _, dim := range []int{0, 7} {
		refuse([]api.Record{{Key: make(api.Key, dim)}}, dim, 2)
	}
	refuse([]api.Record{rec("x", 2), rec("x", 1)}, 1, 2)
	refuse([]api.Record{rec("x", 1), rec("y", 1)}, 1, 2)
	refuse([]api.Record{rec("x", 1), rec("x", 3), rec("x", 2)}, 1, 16)
	refuse([]api.Record{rec("x", 1), rec("x", 2), rec("x", 1)}, 1, 16)
	refuse([]api.Record{rec("x", 1, 5), rec("x", 1, 4)}, 2, 16)
	l := row(4, 4, 40)
	l[0].Key[3], l[0].Data = 0, "" // 189 bytes
	l = append(l, api.Record{Key: api.Key{most, 0, 0, 0}, Data: strings.Repeat("x", 24)})
	if s, e := bucket.Encode(l, 4, 5); e != api.OK || len(s) != 230 {
		t.Errorf("Encode of 230 bytes: %x, %d", s, e)
	}
	l[4].Data += "x"
	refuse(l, 4, 5)
}

// P10.2: of no records none may not be, of whichever number of coordinates.
func TestEncodeOfNothing(t *testing.T) {
	for _, dim := range append(wrongDims, 1, 2, 6) {
		if s, e := bucket.Encode(nil, dim, 2); s != "\x00" || e != api.OK {
			t.Errorf("Encode(nil, %d, 2): %x, %d", dim, s, e)
		}
	}
}

// fails expects of Decode just that error.
func fails(t *testing.T, s string, dim int, cap int, want api.Errno) {
	t.Helper()
	if l, e := bucket.Decode(s, dim, cap); len(l) != 0 || e != want {
		t.Errorf("Decode(%x, %d, %d): %v, %d, want %d", s, dim, cap, l, e, want)
	}
}

// P10.2, R2: wrong arguments are told ahead of wrong bytes.
func TestDecodeRefuses(t *testing.T) {
	for _, s := range []string{"", "\x00", "\x01", "\x00x", encoded(row(2, 2, 3)), strings.Repeat("x", 9999)} {
		for _, dim := range wrongDims {
			fails(t, s, dim, 2, api.BadRequest)
		}
		for _, cap := range wrongCaps {
			fails(t, s, 2, cap, api.BadRequest)
		}
		fails(t, s, 0, 0, api.BadRequest)
	}
}

// P10.2: ends at each place, and bytes behind the end.
func TestDecodeCut(t *testing.T) {
	for dim := 1; dim <= 6; dim++ {
		for _, l := range buckets(dim) {
			s := encoded(l)
			for i := range s {
				fails(t, s[:i], dim, 16, api.ErrCut)
			}
			for _, behind := range []string{"\x00", "x", s, strings.Repeat("\x00", 300), strings.Repeat("\x00", 9999)} {
				fails(t, s+behind, dim, 16, api.ErrForm)
			}
		}
	}
}

// P10.2, R2: a text that is cut is told to be cut, whatever else is wrong in it.
func TestDecodeCutFirst(t *testing.T) {
	for _, l := range [][]api.Record{
		row(17, 1, 0), row(255, 6, 0), row(255, 1, 255), row(4, 6, 40), row(1, 2, 41), row(1, 2, 255), row(255, 6, 255),
		{rec("x", 2), rec("y", 1)}, {rec("x", 2), rec("y", 2)}, {rec("", 9), rec("", 8), rec(strings.Repeat("z", 255), 7)},
	} {
		s := encoded(l)
		fails(t, s, len(l[0].Key), 16, api.ErrForm)
		fails(t, s+"x", len(l[0].Key), 16, api.ErrForm)
		for i := range s {
			if i < 300 || i > len(s)-300 || i%4096 < 2 {
				fails(t, s[:i], len(l[0].Key), 16, api.ErrCut)
			}
		}
	}
}

// P10.2: by hand.
func TestDecodeByHand(t *testing.T) {
	fails(t, "", 1, 2, api.ErrCut)
	fails(t, "\x01", 1, 2, api.ErrCut)
	fails(t, "\x01\x00\x00\x00\x01", 1, 2, api.ErrCut)
	fails(t, "\x01\x00\x00\x00\x01\x01", 1, 2, api.ErrCut)
	fails(t, "\x01\x00\x00\x00\x01\x01x", 2, 2, api.ErrCut)
	fails(t, "\x02\x00\x00\x00\x01\x01x", 1, 2, api.ErrCut)
	fails(t, "\xff\x00\x00\x00\x01\x01x", 1, 2, api.ErrCut)
	fails(t, "\x01\x00\x00\x00\x01\xffx", 1, 2, api.ErrCut)
	fails(t, "\x00\x00\x00\x00\x01\x01x", 1, 2, api.ErrForm)
	fails(t, "\x01\x00\x00\x00\x01\x00x", 1, 2, api.ErrForm)
	fails(t, "\x02\x00\x00\x00\x01\x00\x00\x00\x00\x01\x00", 1, 2, api.ErrForm)
	fails(t, "\x02\x00\x00\x00\x02\x00\x00\x00\x00\x01\x00", 1, 2, api.ErrForm)
	fails(t, "\x03\x00\x00\x00\x01\x00\x00\x00\x00\x02\x00\x00\x00\x00\x03\x00", 1, 2, api.ErrForm)
	if l, e := bucket.Decode("\x03\x00\x00\x00\x01\x00\x00\x00\x00\x02\x00\x00\x00\x00\x03\x00", 1, 3); e != api.OK || !same(l, []api.Record{rec("", 1), rec("", 2), rec("", 3)}) {
		t.Errorf("Decode: %v, %d", l, e)
	}
}

// decoded says it word by word as the document does.
func decoded(s string, dim int, cap int) ([]api.Record, api.Errno) {
	if s == "" {
		return nil, api.ErrCut
	}
	var l []api.Record
	left := s[1:]
	for range s[0] {
		if len(left) < 4*dim+1 || len(left) < 4*dim+1+int(left[4*dim]) {
			return nil, api.ErrCut
		}
		var r api.Record
		for i := range dim {
			r.Key = append(r.Key, binary.BigEndian.Uint32([]byte(left[4*i:4*i+4])))
		}
		left = left[4*dim:]
		r.Data = left[1 : 1+left[0]]
		left = left[1+left[0]:]
		l = append(l, r)
	}
	if left != "" || !may(l, dim, cap) {
		return nil, api.ErrForm
	}
	return l, api.OK
}

// P10.2, P10.4: buckets of which a few bytes are turned, put in, or taken out: what is read is what was written.
func TestDecodeSpoilt(t *testing.T) {
	r := rand.New(rand.NewSource(3))
	for dim := 1; dim <= 6; dim++ {
		for _, l := range buckets(dim) {
			for range 100 {
				b := []byte(encoded(l))
				for range 1 + r.Intn(2) {
					i := r.Intn(len(b))
					switch r.Intn(4) {
					case 0:
						b = slices.Delete(b, i, min(len(b)-1, i+1+r.Intn(4)+1))
					case 1:
						b = slices.Insert(b, i, byte(r.Intn(3)), byte(r.Intn(256)))
					default:
						b[i] ^= 1 << r.Intn(8)
					}
				}
				cap := 2 + r.Intn(15)
				want, e := decoded(string(b), dim, cap)
				have, f := bucket.Decode(string(b), dim, cap)
				if !same(have, want) || e != f {
					t.Fatalf("Decode(%x, %d, %d): %v, %d, want %v, %d", b, dim, cap, have, f, want, e)
				}
				if s, e := bucket.Encode(have, dim, cap); f == api.OK && (s != string(b) || e != api.OK) {
					t.Fatalf("Encode(%v): %x, %d, want %x", have, s, e, b)
				}
			}
		}
	}
}

// P10.3
func TestFind(t *testing.T) {
	for _, x := range []struct {
		l    []api.Record
		k    api.Key
		want int
		is   bool
	}{
		{nil, api.Key{1}, 0, false}, {nil, nil, 0, false},
		{[]api.Record{rec("", 5)}, api.Key{4}, 0, false}, {[]api.Record{rec("", 5)}, api.Key{5}, 0, true}, {[]api.Record{rec("", 5)}, api.Key{6}, 1, false},
		{[]api.Record{rec("", 5)}, nil, 0, false}, {[]api.Record{rec("", 5)}, api.Key{5, 0}, 1, false}, {[]api.Record{rec("", 5, 0)}, api.Key{5}, 0, false},
		{[]api.Record{rec("", 1, 9), rec("", 2, 0), rec("", 2, 7)}, api.Key{2, 0}, 1, true}, {[]api.Record{rec("", 1, 9), rec("", 2, 0), rec("", 2, 7)}, api.Key{2, 8}, 3, false},
		{[]api.Record{rec("", 0), rec("", most)}, api.Key{most}, 1, true}, {[]api.Record{rec("", 0), rec("", most)}, api.Key{most - 1}, 1, false},
	} {
		if n, is := bucket.Find(x.l, x.k); n != x.want || is != x.is {
			t.Errorf("Find(%v, %v): %d, %t, want %d, %t", x.l, x.k, n, is, x.want, x.is)
		}
	}
	var l []api.Record
	for i := range uint32(100) {
		for _, k := range []uint32{0, 2*i - 1, 2 * i, 2*i + 1, most} {
			want, is := 0, false
			for _, r := range l {
				if r.Key[0] < k {
					want++
				}
				is = is || r.Key[0] == k
			}
			if n, have := bucket.Find(l, api.Key{k}); n != want || have != is {
				t.Errorf("Find(%d) among %d: %d, %t, want %d, %t", k, len(l), n, have, want, is)
			}
		}
		l = append(l, rec("", 2*i))
	}
}

// P10.3
func TestPut(t *testing.T) {
	l := bucket.Put(nil, rec("b", 5))
	l = bucket.Put(l, rec("d", 9))
	l = bucket.Put(l, rec("a", 0))
	l = bucket.Put(l, rec("c", 7))
	if want := []api.Record{rec("a", 0), rec("b", 5), rec("c", 7), rec("d", 9)}; !same(l, want) {
		t.Errorf("Put: %v, want %v", l, want)
	}
	l = bucket.Put(l, rec("first", 0))
	l = bucket.Put(l, rec("last", 9))
	l = bucket.Put(l, rec("", 5))
	if want := []api.Record{rec("first", 0), rec("", 5), rec("c", 7), rec("last", 9)}; !same(l, want) {
		t.Errorf("Put again: %v, want %v", l, want)
	}
	l = bucket.Put(l, rec(strings.Repeat("x", 500), most, 1))
	if n := len(l); n != 5 || bucket.Size(l) != sized(l) {
		t.Errorf("Put of what may be in no bucket: %v", l)
	}
}

// P10.3
func TestCut(t *testing.T) {
	l := row(4, 2, 3)
	for i, r := range l {
		rest := slices.Concat(l[:i], l[i+1:])
		have, ok := bucket.Cut(l, r.Key)
		if !ok || !same(have, rest) {
			t.Errorf("Cut(%v): %v, %t, want %v", r.Key, have, ok, rest)
		}
		if have, ok := bucket.Cut(rest, r.Key); ok || !same(have, rest) {
			t.Errorf("Cut again: %v, %t, want %v", have, ok, rest)
		}
	}
	for _, k := range []api.Key{nil, {}, {1}, {most - 5, 1}, {most, 0}, {most - 5, 0, 0}} {
		if have, ok := bucket.Cut(l, k); ok || !same(have, l) {
			t.Errorf("Cut(%v): %v, %t, want %v", k, have, ok, l)
		}
	}
	if have, ok := bucket.Cut(nil, api.Key{1}); ok || len(have) != 0 {
		t.Errorf("Cut of nothing: %v, %t", have, ok)
	}
	if have, ok := bucket.Cut(l[:1], l[0].Key); !ok || len(have) != 0 {
		t.Errorf("Cut of the only one: %v, %t", have, ok)
	}
}

// P10.3, P10.4: what is put and cut is a bucket: long rows of calls, told beside a plain map.
func TestPutAndCut(t *testing.T) {
	for seed := range int64(60) {
		r := rand.New(rand.NewSource(seed))
		plain := map[[2]uint32]string{}
		var l []api.Record
		for range 120 {
			p := [2]uint32{r.Uint32() % 5, r.Uint32() % 5}
			k := api.Key{p[0], p[1]}
			data, is := plain[p]
			n, have := bucket.Find(l, k)
			if have != is || is && l[n].Data != data {
				t.Fatalf("Find(%v) in %v: %d, %t", k, l, n, have)
			}
			if r.Intn(5) < 3 {
				plain[p] = strings.Repeat("x", r.Intn(6))
				l = bucket.Put(l, api.Record{Key: k, Data: plain[p]})
			} else {
				delete(plain, p)
				l, have = bucket.Cut(l, k)
				if have != is {
					t.Fatalf("Cut(%v): %t, want %t", k, have, is)
				}
			}
			if !isBucket(l) || len(l) != len(plain) {
				t.Fatalf("%v, want %v", l, plain)
			}
			for _, x := range l {
				if data, is := plain[[2]uint32(x.Key)]; !is || data != x.Data {
					t.Fatalf("%v, want %v", l, plain)
				}
			}
		}
	}
}

// unruly are all lists of up to five records, with few Keys, that are no buckets.
func unruly() [][]api.Record {
	var out [][]api.Record
	all := [][]api.Record{nil}
	for range 5 {
		var longer [][]api.Record
		for _, l := range all {
			for _, k := range []api.Key{nil, {1}, {1, 0}, {2}} {
				longer = append(longer, append(slices.Clone(l), api.Record{Key: k, Data: "x"}))
			}
		}
		all = longer
		for _, l := range all {
			if !isBucket(l) {
				out = append(out, l)
			}
		}
	}
	return out
}

// P10.3, R1: of lists that are no buckets they tell none either.
func TestListsThatAreNoBuckets(t *testing.T) {
	for _, l := range unruly() {
		for _, k := range []api.Key{nil, {0}, {1}, {1, 0}, {1, 1}, {2}, {3}} {
			if n, _ := bucket.Find(l, k); n < 0 || n > len(l) {
				t.Fatalf("Find(%v, %v): %d", l, k, n)
			}
			if p := bucket.Put(l, api.Record{Key: k}); isBucket(p) {
				t.Fatalf("Put(%v, %v): %v", l, k, p)
			}
			if c, _ := bucket.Cut(l, k); isBucket(c) {
				t.Fatalf("Cut(%v, %v): %v", l, k, c)
			}
		}
	}
}

// R5: what is handed in is not changed, nor is its spare room; what is answered shares nothing with it.
func TestPutAndCutAreNew(t *testing.T) {
	for _, k := range []api.Key{{0, 0}, {1, 1}, {2, 2}, {3, 3}, {4, 4}, {5, 5}, {9, 9}} {
		keys := api.Key{1, 1, 3, 3, 5, 5, 7, 7}
		data := "one and three and five"
		room := []api.Record{{Key: keys[0:2], Data: data[:3]}, {Key: keys[2:4], Data: data[8:13]}, {Key: keys[4:6], Data: data[18:]}, {Key: keys[6:8], Data: "spare"}, {Data: "spare, too"}}
		before, points, given := copied(room), slices.Clone(keys), slices.Clone(k)
		for _, l := range [][]api.Record{room[:0], room[:1], room[:2], room[:3]} {
			whole := copied(l)
			p := bucket.Put(l, api.Record{Key: k, Data: data[4:7]})
			apart(t, p, append(room, api.Record{Key: k, Data: data}))
			c, _ := bucket.Cut(l, k)
			apart(t, c, room)
			if !same(l, whole) || !same(room, before) || !slices.Equal(keys, points) || !slices.Equal(k, given) {
				t.Fatalf("Put or Cut of %v has changed what was handed in: %v, %v, %v", given, room, keys, k)
			}
		}
	}
}

// apart expects that an answer shares no memory with what was handed in, nor its lists with one another; then it spoils the answer.
func apart(t *testing.T, answer []api.Record, given []api.Record) {
	t.Helper()
	want := copied(answer)
	for i, r := range answer {
		for _, g := range given {
			at, from := uintptr(unsafe.Pointer(unsafe.StringData(r.Data))), uintptr(unsafe.Pointer(unsafe.StringData(g.Data)))
			if r.Data != "" && at >= from && at < from+uintptr(len(g.Data)) {
				t.Errorf("the answer shares the text %q", r.Data)
			}
		}
		if !slices.Equal(r.Key, want[i].Key) {
			t.Errorf("two lists of an answer share their memory: %v", r.Key)
		}
		k := r.Key[:cap(r.Key)]
		for j := range k {
			k[j] = 1000
		}
	}
	clear(answer[:cap(answer)])
}

// R5, R6: of the same bytes the same is told, new each time; and Encode changes nothing.
func TestDecodeIsNew(t *testing.T) {
	for dim := 1; dim <= 6; dim++ {
		for _, l := range buckets(dim) {
			before := copied(l)
			s, _ := bucket.Encode(l, dim, 16)
			for range 3 {
				have, e := bucket.Decode(s, dim, 16)
				if !same(have, before) || e != api.OK {
					t.Fatalf("Decode(%x): %v, %d", s, have, e)
				}
				apart(t, have, []api.Record{{Data: s}})
			}
			bucket.Size(l)
			bucket.Fits(l, 3)
			bucket.Find(l, make(api.Key, dim))
			if again, _ := bucket.Encode(l, dim, 16); again != s || !same(l, before) {
				t.Fatalf("Encode has changed what was handed in: %v", l)
			}
		}
	}
}
