package request_test

import (
	"math"
	"math/rand"
	"reflect"
	"slices"
	"strings"
	"testing"

	"cadastre/api"
	"cadastre/key"
	"cadastre/request"
)

// The kinds, and what is none.
func kinds() []int { return []int{1, 2, 3, 4, 5, 6, 7, 8, 9, 10, 11, 12} }

func noKinds() []int {
	return []int{0, 13, 14, -1, -12, 256 + 3, 1<<32 + 1, math.MinInt, math.MinInt + 1, math.MaxInt, math.MaxInt - 1}
}

func noDims() []int { return []int{0, 7, 8, -1, -6, 256 + 1, 1 << 32, math.MinInt, math.MaxInt} }

// point is one of so many coordinates.
func point(dim int, first uint32) api.Key {
	k := make(api.Key, max(dim, 0))
	for i := range k {
		k[i] = first + uint32(i)
	}
	return k
}

// good is a request that may be, of a store of so many coordinates.
func good(do int, dim int) request.Request {
	r := request.Request{Do: do}
	switch do {
	case request.Put:
		r.Key, r.Data = point(dim, 7), "data"
	case request.Delete, request.Get:
		r.Key = point(dim, 7)
	case request.Window, request.Count:
		r.Box = api.Box{Low: point(dim, 7), High: point(dim, 9)}
	case request.Partial:
		r.At, r.Key = []int{0}, api.Key{7}
	case request.Near:
		r.Key, r.Most = point(dim, 7), 3
	case request.Load:
		r.Records = []api.Record{{Key: point(dim, 7), Data: "data"}, {Key: point(dim, 7)}}
	}
	return r
}

// insideOf is whether a kind is asked inside a transaction here, so that it may be.
func insideOf(do int) bool { return do == request.Commit || do == request.Abort }

// copied is a request that shares nothing with another one.
func copied(r request.Request) request.Request {
	r.Key, r.At = slices.Clone(r.Key), slices.Clone(r.At)
	r.Box = api.Box{Low: slices.Clone(r.Box.Low), High: slices.Clone(r.Box.High)}
	r.Records = slices.Clone(r.Records)
	for i, x := range r.Records {
		r.Records[i].Key = slices.Clone(x.Key)
	}
	return r
}

// expect expects of Check that answer, told twice, and that the request is as it was.
func expect(t *testing.T, r request.Request, dim int, open bool, inside bool, want api.Errno, what string) {
	t.Helper()
	before := copied(r)
	for range 2 {
		if e := request.Check(r, dim, open, inside); e != want {
			t.Errorf("Check of %d, %s, dim %d, open %v, inside %v: %d, want %d", r.Do, what, dim, open, inside, e, want)
		}
	}
	if !reflect.DeepEqual(r, before) {
		t.Errorf("Check of %d, %s: the request is not as it was", r.Do, what)
	}
}

// P25.1: the numbers of the kinds are the document's.
func TestKinds(t *testing.T) {
	have := []int{
		request.Put, request.Delete, request.Get, request.Window, request.Partial, request.Count,
		request.Near, request.Load, request.Begin, request.Commit, request.Abort, request.Close,
	}
	if !slices.Equal(have, kinds()) {
		t.Errorf("the kinds are %v", have)
	}
}

// P25.1: each kind, of a store that is open or not, inside a transaction or not, of each number of coordinates.
func TestCheck(t *testing.T) {
	for _, do := range kinds() {
		for dim := 1; dim <= 6; dim++ {
			r := good(do, dim)
			for _, inside := range []bool{false, true} {
				want := api.OK
				if do == request.Begin && inside || (do == request.Commit || do == request.Abort) && !inside {
					want = api.BadRequest
				}
				expect(t, r, dim, true, inside, want, "that may be")
				expect(t, r, dim, false, inside, api.BadRequest, "of a store that is not open")
			}
		}
		for _, dim := range noDims() {
			for _, of := range []int{dim, 1, 6} {
				if of < 0 || of > 8 {
					continue
				}
				for _, inside := range []bool{false, true} {
					expect(t, good(do, of), dim, true, inside, api.BadRequest, "of no such dim")
				}
			}
		}
	}
}

// P25.1: any other number is none.
func TestNoKind(t *testing.T) {
	for _, do := range noKinds() {
		for _, like := range kinds() {
			for _, dim := range []int{1, 2, 6, 0, 7} {
				r := good(like, dim)
				r.Do = do
				for _, inside := range []bool{false, true} {
					expect(t, r, dim, true, inside, api.BadRequest, "no kind")
					expect(t, r, dim, false, inside, api.BadRequest, "no kind")
				}
			}
		}
		expect(t, request.Request{Do: do}, 2, true, false, api.BadRequest, "no kind")
		if b, e := request.Box(request.Request{Do: do, Box: key.Whole(2)}, 2); e != api.BadRequest || b.Low != nil || b.High != nil {
			t.Errorf("Box of %d: %v, %d", do, b, e)
		}
	}
}

// both expects an answer inside a transaction and outside: what is handed in does not hang on that.
func both(t *testing.T, r request.Request, dim int, want api.Errno, what string) {
	t.Helper()
	expect(t, r, dim, true, false, want, what)
	expect(t, r, dim, true, true, want, what)
	expect(t, r, dim, false, false, api.BadRequest, what)
}

// lengths are points of other numbers of coordinates.
func lengths(dim int) []api.Key {
	out := []api.Key{nil, {}, make(api.Key, 7), make(api.Key, 100)}
	for n := range 9 {
		if n != dim {
			out = append(out, point(n, 7))
		}
	}
	return out
}

// P25.1: Put, Delete, Get and Near of a Key of another length.
func TestKeys(t *testing.T) {
	for dim := 1; dim <= 6; dim++ {
		for _, do := range []int{request.Put, request.Delete, request.Get, request.Near} {
			r := good(do, dim)
			for _, k := range []api.Key{make(api.Key, dim), point(dim, math.MaxUint32), slices.Repeat(api.Key{math.MaxUint32}, dim)} {
				r.Key = k
				both(t, r, dim, api.OK, "of a Key that may be")
			}
			for _, k := range lengths(dim) {
				r.Key = k
				both(t, r, dim, api.BadRequest, "of a Key of another length")
			}
		}
	}
}

// P25.1: Put of Data of at most 40 bytes.
func TestData(t *testing.T) {
	for dim := 1; dim <= 6; dim++ {
		r := good(request.Put, dim)
		for _, n := range []int{0, 1, 39, 40, 41, 42, 255, 256, 296, 65536, 65576} {
			want := api.OK
			if n > 40 {
				want = api.BadRequest
			}
			for _, byte := range []string{"d", "\x00", "\xff"} {
				r.Data = strings.Repeat(byte, n)
				both(t, r, dim, want, "of so much Data")
			}
		}
		r.Data = strings.Repeat("ä", 20)
		both(t, r, dim, api.OK, "of 40 bytes")
		r.Data = strings.Repeat("ä", 21)
		both(t, r, dim, api.BadRequest, "of 42 bytes")
	}
}

// P25.1: Window and Count of a Box.
func TestBoxes(t *testing.T) {
	for dim := 1; dim <= 6; dim++ {
		for _, do := range []int{request.Window, request.Count} {
			r := good(do, dim)
			for _, b := range []api.Box{key.Whole(dim), {Low: point(dim, 3), High: point(dim, 3)}, {Low: make(api.Key, dim), High: make(api.Key, dim)}} {
				r.Box = b
				both(t, r, dim, api.OK, "of a Box that may be")
			}
			for at := range dim {
				r.Box = api.Box{Low: point(dim, 3), High: point(dim, 3)}
				r.Box.Low[at]++
				both(t, r, dim, api.BadRequest, "whose Low is above its High")
				r.Box = key.Whole(dim)
				r.Box.Low[at], r.Box.High[at] = math.MaxUint32, math.MaxUint32-1
				both(t, r, dim, api.BadRequest, "whose Low is above its High")
			}
			for _, k := range lengths(dim) {
				for _, b := range []api.Box{{Low: k, High: k}, {Low: k, High: point(dim, 9)}, {Low: point(dim, 0), High: k}} {
					r.Box = b
					both(t, r, dim, api.BadRequest, "whose ends are of another length")
				}
			}
		}
	}
}

// P25.1, P25.2: Partial of At and Key.
func TestPartials(t *testing.T) {
	for dim := 1; dim <= 6; dim++ {
		for set := range 1 << dim {
			r := request.Request{Do: request.Partial}
			want := key.Whole(dim)
			for at := range dim {
				if set>>at&1 == 1 {
					r.At, r.Key = append(r.At, at), append(r.Key, uint32(100+at))
					want.Low[at], want.High[at] = uint32(100+at), uint32(100+at)
				}
			}
			both(t, r, dim, api.OK, "of some coordinates")
			if b, e := request.Box(r, dim); e != api.OK || !reflect.DeepEqual(b, want) {
				t.Errorf("Box of a Partial of %v, dim %d: %v, %d", r.At, dim, b, e)
			}
			wrong := func(at []int, k api.Key, what string) {
				t.Helper()
				both(t, request.Request{Do: request.Partial, At: at, Key: k}, dim, api.BadRequest, what)
				if b, e := request.Box(request.Request{Do: request.Partial, At: at, Key: k}, dim); e != api.BadRequest || b.Low != nil || b.High != nil {
					t.Errorf("Box of a Partial %s: %v, %d", what, b, e)
				}
			}
			wrong(r.At, append(slices.Clone(r.Key), 5), "of one coordinate more in Key")
			wrong(append(slices.Clone(r.At), dim), append(slices.Clone(r.Key), 5), "of one that there is not")
			wrong(append(slices.Clone(r.At), math.MaxInt), append(slices.Clone(r.Key), 5), "of one that there is not")
			wrong(append([]int{-1}, r.At...), append(api.Key{5}, r.Key...), "of one that there is not")
			if len(r.At) > 0 {
				last := len(r.At) - 1
				wrong(r.At, r.Key[:last], "of one coordinate less in Key")
				wrong(r.At[:last], r.Key, "of one less in At")
				wrong(append(slices.Clone(r.At), r.At[last]), append(slices.Clone(r.Key), 5), "of one twice")
				wrong(append([]int{r.At[0]}, r.At...), append(api.Key{5}, r.Key...), "of one twice")
			}
			if len(r.At) > 1 {
				turned := slices.Clone(r.At)
				slices.Reverse(turned)
				wrong(turned, r.Key, "that do not rise")
			}
		}
	}
}

// P25.1: Most of a Near.
func TestMost(t *testing.T) {
	for dim := 1; dim <= 6; dim++ {
		r := good(request.Near, dim)
		for _, most := range []int{0, 1, 2, 999, 1000} {
			r.Most = most
			both(t, r, dim, api.OK, "of so many")
		}
		for _, most := range []int{-1, -1000, 1001, 1 << 16, 1<<32 + 1, math.MinInt, math.MaxInt} {
			r.Most = most
			both(t, r, dim, api.BadRequest, "of so many")
		}
	}
}

// P25.1: Records of a Load.
func TestRecords(t *testing.T) {
	for dim := 1; dim <= 6; dim++ {
		r := request.Request{Do: request.Load}
		for _, n := range []int{0, 1, 2, 500, 999, 1000, 1001, 1002, 5000} {
			want := api.OK
			if n > 1000 {
				want = api.BadRequest
			}
			r.Records = nil
			for i := range n { // in no order, and some of one Key
				r.Records = append(r.Records, api.Record{Key: point(dim, uint32(i*7%10)), Data: strings.Repeat("d", i%41)})
			}
			both(t, r, dim, want, "of so many Records")
			for _, at := range []int{0, 1, n / 2, n - 1} {
				if at < 0 || at >= n {
					continue
				}
				was := r.Records[at]
				for _, x := range []api.Record{{Key: was.Key, Data: strings.Repeat("d", 41)}, {}, {Key: point(dim+1, 0)}, {Key: point(dim-1, 0)}, {Data: "d"}} {
					r.Records[at] = x
					both(t, r, dim, api.BadRequest, "one of which may not be")
				}
				r.Records[at] = was
			}
		}
	}
}

// P25.1: what the kind does not name is not asked.
func TestNotAsked(t *testing.T) {
	wrong := request.Request{
		Key: make(api.Key, 9), Data: strings.Repeat("d", 41), Box: api.Box{Low: api.Key{9}, High: api.Key{1}},
		At: []int{7, 7, -1}, Most: -1, Records: make([]api.Record, 1001),
	}
	for _, do := range kinds() {
		for dim := 1; dim <= 6; dim++ {
			named, r := good(do, dim), wrong
			r.Do = do
			switch do {
			case request.Put:
				r.Key, r.Data = named.Key, named.Data
			case request.Delete, request.Get:
				r.Key = named.Key
			case request.Window, request.Count:
				r.Box = named.Box
			case request.Partial:
				r.At, r.Key = named.At, named.Key
			case request.Near:
				r.Key, r.Most = named.Key, named.Most
			case request.Load:
				r.Records = named.Records
			}
			expect(t, r, dim, true, insideOf(do), api.OK, "with what is not asked")
			if do < request.Begin {
				expect(t, r, dim, true, true, api.OK, "with what is not asked")
				r = wrong
				r.Do = do
				both(t, r, dim, api.BadRequest, "with nothing that may be")
			}
		}
	}
}

// P25.2: each kind.
func TestBox(t *testing.T) {
	for _, do := range kinds() {
		for dim := 1; dim <= 6; dim++ {
			r := good(do, dim)
			if do != request.Window && do != request.Partial && do != request.Count {
				r.Box = key.Whole(dim)
			}
			before := copied(r)
			b, e := request.Box(r, dim)
			switch do {
			case request.Window, request.Count:
				if e != api.OK || !reflect.DeepEqual(b, r.Box) {
					t.Errorf("Box of %d, dim %d: %v, %d", do, dim, b, e)
				}
			case request.Partial:
				want := key.Whole(dim)
				want.Low[0], want.High[0] = 7, 7
				if e != api.OK || !reflect.DeepEqual(b, want) {
					t.Errorf("Box of %d, dim %d: %v, %d", do, dim, b, e)
				}
			default:
				if e != api.BadRequest || b.Low != nil || b.High != nil {
					t.Errorf("Box of %d, dim %d: %v, %d", do, dim, b, e)
				}
			}
			if !reflect.DeepEqual(r, before) {
				t.Errorf("Box of %d, dim %d: the request is not as it was", do, dim)
			}
		}
		for _, dim := range noDims() {
			for _, of := range []int{1, 6} {
				if b, e := request.Box(good(do, of), dim); e != api.BadRequest || b.Low != nil || b.High != nil {
					t.Errorf("Box of %d, dim %d: %v, %d", do, dim, b, e)
				}
			}
		}
	}
}

// P25.2: a box that may not be is told of none.
func TestBoxRefuses(t *testing.T) {
	for _, do := range []int{request.Window, request.Count} {
		for dim := 1; dim <= 6; dim++ {
			for _, b := range []api.Box{{}, {Low: point(dim, 9), High: point(dim, 7)}, {Low: point(dim, 9)}, {High: point(dim, 9)}, key.Whole(dim%6 + 1)} {
				if have, e := request.Box(request.Request{Do: do, Box: b}, dim); e != api.BadRequest || have.Low != nil || have.High != nil {
					t.Errorf("Box of %d, dim %d, %v: %v, %d", do, dim, b, have, e)
				}
			}
		}
	}
}

// R5: a box is new, and its ends share no room.
func TestBoxIsNew(t *testing.T) {
	room := point(8, 5)
	for _, r := range []request.Request{
		{Do: request.Window, Box: api.Box{Low: room[:2], High: room[1:3]}},
		{Do: request.Count, Box: api.Box{Low: room[:2], High: room[:2]}},
		{Do: request.Partial, At: []int{0, 1}, Key: room[:2]},
	} {
		first, _ := request.Box(r, 2)
		second, e := request.Box(r, 2)
		want := api.Box{Low: slices.Clone(first.Low), High: slices.Clone(first.High)}
		if e != api.OK {
			t.Fatalf("Box of %d: %d", r.Do, e)
		}
		clear(first.Low[:cap(first.Low)])
		if !slices.Equal(first.High, want.High) {
			t.Errorf("Box of %d: Low and High share room", r.Do)
		}
		clear(first.High[:cap(first.High)])
		if !slices.Equal(room, point(8, 5)) {
			t.Errorf("Box of %d shares room with the request", r.Do)
		}
		if !reflect.DeepEqual(second, want) {
			t.Errorf("Box of %d: two answers share room", r.Do)
		}
	}
}

// P25.3: of stores of one dimension at most.
func TestOneDimension(t *testing.T) {
	for _, do := range []int{request.Put, request.Delete, request.Get, request.Window, request.Count, request.Near} {
		for of := range 9 {
			r := good(do, of)
			many := 0
			for dim := -1; dim < 9; dim++ {
				if request.Check(r, dim, true, false) == api.OK {
					many++
				}
			}
			if want := min(of, 1) - of/7; many != want {
				t.Errorf("%d of %d coordinates may be asked of %d dimensions", do, of, many)
			}
		}
	}
}

// may says it word by word as the document does.
func may(r request.Request, dim int, open bool, inside bool) bool {
	record := func(x api.Record) bool { return len(x.Key) == dim && len(x.Data) <= 40 }
	box := func(b api.Box) bool {
		for i := range min(len(b.Low), len(b.High)) {
			if b.Low[i] > b.High[i] {
				return false
			}
		}
		return len(b.Low) == dim && len(b.High) == dim
	}
	if !open || dim < 1 || dim > 6 {
		return false
	}
	switch r.Do {
	case 1:
		return record(api.Record{Key: r.Key, Data: r.Data})
	case 2, 3:
		return len(r.Key) == dim
	case 4, 6:
		return box(r.Box)
	case 5:
		for i, at := range r.At {
			if at < 0 || at >= dim || i > 0 && r.At[i-1] >= at {
				return false
			}
		}
		return len(r.At) == len(r.Key)
	case 7:
		return len(r.Key) == dim && 0 <= r.Most && r.Most <= 1000
	case 8:
		for _, x := range r.Records {
			if !record(x) {
				return false
			}
		}
		return len(r.Records) <= 1000
	case 9:
		return !inside
	case 10, 11:
		return inside
	}
	return r.Do == 12
}

// P25.1, P25.2: many requests beside the document's words.
func TestManyBesidePlain(t *testing.T) {
	r := rand.New(rand.NewSource(1))
	some := func() api.Key {
		k := make(api.Key, 1+r.Intn(3))
		for i := range k {
			k[i] = uint32(r.Intn(4))
		}
		return k
	}
	told := map[int][2]int{}
	for range 200000 {
		q := request.Request{Do: r.Intn(15) - 1, Key: some(), Data: strings.Repeat("d", 38+r.Intn(4)), Box: api.Box{Low: some(), High: some()}, Most: []int{-1, 0, 7, 1000, 1001}[r.Intn(5)]}
		for range r.Intn(4) {
			q.At = append(q.At, r.Intn(5)-1)
			q.Records = append(q.Records, api.Record{Key: some(), Data: strings.Repeat("d", 35+r.Intn(7))})
		}
		dim, open, inside := r.Intn(4), r.Intn(8) > 0, r.Intn(2) > 0
		want := api.BadRequest
		if may(q, dim, open, inside) {
			want = api.OK
		}
		if e := request.Check(q, dim, open, inside); e != want {
			t.Fatalf("Check of %+v, dim %d, open %v, inside %v: %d, want %d", q, dim, open, inside, e, want)
		}
		b, e := request.Box(q, dim)
		if boxed := q.Do >= 4 && q.Do <= 6 && may(q, dim, true, false); boxed != (e == api.OK) || boxed != (len(b.Low) == dim && dim > 0) {
			t.Fatalf("Box of %+v, dim %d: %v, %d", q, dim, b, e)
		}
		n := told[q.Do]
		n[want]++
		told[q.Do] = n
	}
	for _, do := range kinds() {
		if told[do][0] < 50 || told[do][1] < 50 {
			t.Errorf("of %d were told %v", do, told[do])
		}
	}
}

// The document's example.
func TestExample(t *testing.T) {
	if e := request.Check(request.Request{Do: request.Commit}, 1, true, false); e != api.BadRequest {
		t.Errorf("Commit, not inside: %d", e)
	}
}
