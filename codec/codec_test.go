package codec_test

import (
	"bytes"
	"encoding/binary"
	"math"
	"math/rand/v2"
	"slices"
	"sync"
	"testing"

	"geofence/api"
	"geofence/codec"
	"geofence/header"
)

// Short names of the types of lists.
type (
	regions = []api.Region
	points  = []api.Point
	queries = []api.Query
	records = []api.Record
)

func source(seed uint64) *rand.Rand { return rand.New(rand.NewPCG(seed, 18)) }

// kinds returns the regions with the given bytes, as in headers.
func kinds(b ...byte) regions {
	var l regions
	for _, x := range b {
		l = append(l, api.Region{Deny: x&128 != 0, Vertices: int(x & 127)})
	}
	return l
}

// batch returns the header of a batch of n points about regions with the given bytes.
func batch(n int, b ...byte) api.Header {
	return api.Header{Op: api.OpBatch, Regions: kinds(b...), Points: n}
}

// strange are numbers some of which would be permitted as numbers of fewer bits.
var strange = []int{-1, -2, -3, -255, -256, -65535, -65536, -1<<32 + 1, math.MinInt, math.MinInt + 1, math.MinInt + 2, 4, 5, 255, 256, 257, 258, 65535, 65536, 65537, 65538, 1 << 32, 1<<32 + 1, 1<<32 + 2, 1 << 62, math.MaxInt - 1, math.MaxInt}

// invalidHeaders are headers for which header.Format returns different errors.
var invalidHeaders = []api.Header{
	{}, {Op: 6}, {Op: -1}, {Op: 257}, {Op: math.MinInt},
	{Op: 3}, {Op: 3, Vertices: 2}, {Op: 3, Vertices: 65}, {Op: 4}, {Op: 5, Points: 1}, {Op: 4, Regions: make(regions, 65)},
	{Op: 4, Regions: regions{{Vertices: 2}}}, {Op: 5, Regions: regions{{}, {Vertices: 65}}, Points: 1},
	{Op: 5, Regions: regions{{}}}, {Op: 5, Regions: regions{{}}, Points: 4097},
	{Op: 1, Vertices: 3}, {Op: 1, Points: 1}, {Op: 2, Regions: regions{{}}}, {Op: 3, Vertices: 3, Points: -1}, {Op: 4, Regions: regions{{}}, Points: 1}, {Op: 4, Regions: regions{{Points: make(points, 3)}}},
}

// size returns the number of points of a region.
func size(g api.Region) int {
	if g.Vertices == 0 {
		return 3
	}
	return g.Vertices
}

// others returns the number of points that belong to no region.
func others(h api.Header) int {
	return map[int]int{1: 3, 2: 4, 3: h.Vertices + 1, 4: 1}[h.Op]
}

// encode returns what Encode should return.
func encode(r codec.Request) ([]byte, api.Errno) {
	h := r.Header
	b, errno := header.Format(h)
	if errno != api.OK {
		return nil, errno
	}
	wrong := len(r.Regions) != len(h.Regions) || len(r.Points) != others(h) || len(r.Queries) != h.Points
	for i := 0; i < len(r.Regions) && i < len(h.Regions); i++ {
		wrong = wrong || len(r.Regions[i].Points) != size(h.Regions[i])
	}
	if wrong {
		return nil, api.ErrLength
	}
	for i, g := range r.Regions {
		if g.Deny != h.Regions[i].Deny || g.Vertices != h.Regions[i].Vertices {
			return nil, api.ErrArg
		}
		b = put(b, g.Points)
	}
	return put(put(b, r.Points), r.Queries), api.OK
}

// put appends numbers of a fixed size.
func put(b []byte, data any) []byte {
	b, err := binary.Append(b, binary.LittleEndian, data)
	if err != nil {
		panic(err)
	}
	return b
}

// decode returns what Decode should return.
func decode(b []byte) (codec.Request, api.Errno) {
	if errno := header.Classify(b); errno != api.OK {
		return codec.Request{}, errno
	}
	h, n, _ := header.Parse(b)
	rest := b[n:]
	get := func(data any) {
		n, err := binary.Decode(rest, binary.LittleEndian, data)
		if err != nil {
			panic(err)
		}
		rest = rest[n:]
	}
	r := codec.Request{Header: h, Points: make(points, others(h)), Queries: make(queries, h.Points)}
	for _, g := range h.Regions {
		g.Points = make(points, size(g))
		get(g.Points)
		r.Regions = append(r.Regions, g)
	}
	get(r.Points)
	get(r.Queries)
	if len(rest) > 0 {
		panic("bytes remain")
	}
	return r, api.OK
}

// isAnswer returns whether a is an answer to a request with the header h, which has no errors.
func isAnswer(h api.Header, a codec.Answer) bool {
	most := map[int]int{1: 2, 2: 2, 3: 3, 4: 2, 5: 1}[h.Op]
	if a.Value < 0 || a.Value > most || a.Count < 0 || a.Count > h.Points || len(a.Records) != h.Points {
		return false
	}
	if a.Value == 0 && a.Count != 0 {
		return false
	}
	for _, x := range a.Records[:a.Count] {
		if x.Live != 1 {
			return false
		}
	}
	for _, x := range a.Records[a.Count:] {
		if x != (api.Record{}) {
			return false
		}
	}
	return true
}

// respond returns what Respond should return.
func respond(h api.Header, a codec.Answer) ([]byte, api.Errno) {
	if _, errno := header.Format(h); errno != api.OK {
		return nil, errno
	}
	if !isAnswer(h, a) {
		return nil, api.ErrInvalid
	}
	b := []byte{0, byte(a.Value)}
	if h.Op != 5 {
		return b, api.OK
	}
	b = append(b, byte(a.Count%256), byte(a.Count/256))
	for _, x := range a.Records {
		b = binary.LittleEndian.AppendUint64(append(b, byte(x.Live)), x.ID)
	}
	return b, api.OK
}

// read returns what Read should return.
func read(h api.Header, b []byte) (codec.Answer, api.Errno) {
	if _, errno := header.Format(h); errno != api.OK {
		return codec.Answer{}, errno
	}
	if len(b) == 1 {
		if b[0] < 4 || b[0] > 8 {
			return codec.Answer{}, api.ErrInvalid
		}
		return codec.Answer{}, api.Errno(b[0])
	}
	if h.Op != 5 && len(b) != 2 || h.Op == 5 && len(b) != 4+9*h.Points {
		return codec.Answer{}, api.ErrLength
	}
	a := codec.Answer{Value: int(b[1])}
	if h.Op == 5 {
		a.Count = int(binary.LittleEndian.Uint16(b[2:]))
		for x := range slices.Chunk(b[4:], 9) {
			a.Records = append(a.Records, api.Record{Live: uint64(x[0]), ID: binary.LittleEndian.Uint64(x[1:])})
		}
	}
	if b[0] != 0 || !isAnswer(h, a) {
		return codec.Answer{}, api.ErrInvalid
	}
	return a, api.OK
}

func equalRegions(g, h api.Region) bool {
	return g.Deny == h.Deny && g.Vertices == h.Vertices && slices.Equal(g.Points, h.Points)
}

func equalHeaders(g, h api.Header) bool {
	return g.Op == h.Op && g.Vertices == h.Vertices && slices.EqualFunc(g.Regions, h.Regions, equalRegions) && g.Points == h.Points
}

func equalRequests(r, s codec.Request) bool {
	return equalHeaders(r.Header, s.Header) && slices.EqualFunc(r.Regions, s.Regions, equalRegions) && slices.Equal(r.Points, s.Points) && slices.Equal(r.Queries, s.Queries)
}

func equalAnswers(a, b codec.Answer) bool {
	return a.Value == b.Value && a.Count == b.Count && slices.Equal(a.Records, b.Records)
}

func clonedRegions(l regions) regions {
	l = slices.Clone(l)
	for i := range l {
		l[i].Points = slices.Clone(l[i].Points)
	}
	return l
}

// cloned returns r in memory of its own.
func cloned(r codec.Request) codec.Request {
	r.Header.Regions, r.Regions = clonedRegions(r.Header.Regions), clonedRegions(r.Regions)
	r.Points, r.Queries = slices.Clone(r.Points), slices.Clone(r.Queries)
	return r
}

// checkEncode compares the result of Encode with what it should be, and with that of Decode.
func checkEncode(t *testing.T, r codec.Request) {
	t.Helper()
	kept := cloned(r)
	b, errno := codec.Encode(r)
	if want, wantErrno := encode(kept); !bytes.Equal(b, want) || errno != wantErrno {
		t.Errorf("Encode of %v = %d and %v, want %d and %v", kept, b, errno, want, wantErrno)
	}
	if !equalRequests(r, kept) {
		t.Errorf("Encode changed %v to %v", kept, r)
	}
	if errno != api.OK {
		return
	}
	if back, errno := codec.Decode(b); !equalRequests(back, kept) || errno != api.OK {
		t.Errorf("Decode of Encode of %v = %v and %v", kept, back, errno)
	}
}

// checkDecode compares the result of Decode with what it should be, and with that of Encode.
func checkDecode(t *testing.T, b []byte) {
	t.Helper()
	kept := bytes.Clone(b)
	r, errno := codec.Decode(b)
	if want, wantErrno := decode(kept); !equalRequests(r, want) || errno != wantErrno {
		t.Errorf("Decode of %d = %v and %v, want %v and %v", kept, r, errno, want, wantErrno)
	}
	if !bytes.Equal(b, kept) {
		t.Errorf("Decode changed %d to %d", kept, b)
	}
	if errno != api.OK {
		return
	}
	if back, errno := codec.Encode(r); !bytes.Equal(back, kept) || errno != api.OK {
		t.Errorf("Encode of Decode of %d = %d and %v", kept, back, errno)
	}
}

// checkRespond compares the result of Respond with what it should be, and with that of Read.
func checkRespond(t *testing.T, h api.Header, a codec.Answer) {
	t.Helper()
	keptH, kept := h, a
	keptH.Regions, kept.Records = clonedRegions(h.Regions), slices.Clone(a.Records)
	b, errno := codec.Respond(h, a)
	if want, wantErrno := respond(keptH, kept); !bytes.Equal(b, want) || errno != wantErrno {
		t.Errorf("Respond for %v and %v = %d and %v, want %d and %v", keptH, kept, b, errno, want, wantErrno)
	}
	if !equalHeaders(h, keptH) || !equalAnswers(a, kept) {
		t.Errorf("Respond changed %v and %v to %v and %v", keptH, kept, h, a)
	}
	if errno != api.OK {
		return
	}
	if len(b) != header.Response(h) {
		t.Errorf("Respond for %v and %v has %d bytes, want %d", h, a, len(b), header.Response(h))
	}
	if back, errno := codec.Read(h, b); !equalAnswers(back, kept) || errno != api.OK {
		t.Errorf("Read of Respond for %v and %v = %v and %v", keptH, kept, back, errno)
	}
}

// checkRead compares the result of Read with what it should be, and with that of Respond.
func checkRead(t *testing.T, h api.Header, b []byte) {
	t.Helper()
	keptH, kept := h, bytes.Clone(b)
	keptH.Regions = clonedRegions(h.Regions)
	a, errno := codec.Read(h, b)
	if want, wantErrno := read(keptH, kept); !equalAnswers(a, want) || errno != wantErrno {
		t.Errorf("Read for %v of %d = %v and %v, want %v and %v", keptH, kept, a, errno, want, wantErrno)
	}
	if !equalHeaders(h, keptH) || !bytes.Equal(b, kept) {
		t.Errorf("Read changed %v and %d to %v and %d", keptH, kept, h, b)
	}
	if errno != api.OK {
		return
	}
	if back, errno := codec.Respond(h, a); !bytes.Equal(back, kept) || errno != api.OK {
		t.Errorf("Respond of Read for %v of %d = %d and %v", keptH, kept, back, errno)
	}
}

// word returns a number of up to 64 bits: one at a bound, one of few bytes, or any.
func word(random *rand.Rand) uint64 {
	switch random.IntN(4) {
	case 0:
		bounds := []uint64{0, 1, 2, 127, 128, 255, 256, 1<<63 - 1, 1 << 63, 1<<63 + 1, math.MaxUint64 - 1, math.MaxUint64}
		return bounds[random.IntN(len(bounds))]
	case 1:
		return random.Uint64() >> random.IntN(64)
	}
	return random.Uint64()
}

func somePoints(random *rand.Rand, n int) points {
	l := make(points, n)
	for i := range l {
		l[i] = api.Point{X: int64(word(random)), Y: int64(word(random))}
	}
	return l
}

// requestFor returns a request with the header h, which has no errors.
func requestFor(random *rand.Rand, h api.Header) codec.Request {
	r := codec.Request{Header: h, Points: somePoints(random, others(h))}
	for _, g := range h.Regions {
		g.Points = somePoints(random, size(g))
		r.Regions = append(r.Regions, g)
	}
	for _, p := range somePoints(random, h.Points) {
		r.Queries = append(r.Queries, api.Query{Point: p, ID: word(random)})
	}
	return r
}

// answerFor returns an answer to a request with the header h, which has no errors.
func answerFor(random *rand.Rand, h api.Header) codec.Answer {
	if h.Op != 5 {
		return codec.Answer{Value: random.IntN(map[int]int{1: 3, 2: 3, 3: 4, 4: 3}[h.Op])}
	}
	a := codec.Answer{Value: random.IntN(2), Records: make(records, h.Points)}
	if a.Value == 1 {
		a.Count = random.IntN(h.Points + 1)
	}
	for i := range a.Count {
		a.Records[i] = api.Record{Live: 1, ID: word(random)}
	}
	return a
}

// full returns the answer to a batch of n points all of which are members with different identifiers.
func full(n int) codec.Answer {
	a := codec.Answer{Value: 1, Count: n}
	for i := range n {
		a.Records = append(a.Records, api.Record{Live: 1, ID: 0x0807060504030201 * uint64(i+1)})
	}
	return a
}

// partly returns the answer to a batch of n points count of which are members.
func partly(n, count int) codec.Answer {
	a := full(n)
	a.Count = count
	clear(a.Records[count:])
	return a
}

// samples are headers without errors: those at the bounds, and ordinary ones.
func samples() []api.Header {
	l := []api.Header{{Op: 1}, {Op: 2}}
	for _, n := range []int{3, 4, 17, 63, 64} {
		l = append(l, api.Header{Op: 3, Vertices: n})
	}
	for _, fence := range [][]byte{{0}, {128}, {3}, {64}, {131, 192}, {0, 3, 128, 192}, {5, 133, 128, 4, 0}, bytes.Repeat([]byte{0}, 64), bytes.Repeat([]byte{192}, 64)} {
		l = append(l, api.Header{Op: 4, Regions: kinds(fence...)})
		for _, n := range []int{1, 2, 3, 255, 256, 257, 4095, 4096} {
			l = append(l, batch(n, fence...))
		}
	}
	return l
}

// small are headers without errors whose requests and responses have few bytes.
var small = []api.Header{{Op: 1}, {Op: 2}, {Op: 3, Vertices: 3}, {Op: 3, Vertices: 5}, {Op: 4, Regions: kinds(0)}, {Op: 4, Regions: kinds(131, 0, 4)}, batch(1, 0), batch(2, 128), batch(3, 3, 132)}

// P18.1

func TestEncodeExamples(t *testing.T) {
	for _, c := range []struct {
		r    codec.Request
		want []byte
	}{
		{codec.Request{Header: api.Header{Op: api.OpOrient}, Points: points{{X: 1, Y: 2}, {X: 3, Y: 4}, {X: -1}}},
			[]byte{1, 1, 0, 0, 0, 0, 0, 0, 0, 2, 0, 0, 0, 0, 0, 0, 0, 3, 0, 0, 0, 0, 0, 0, 0, 4, 0, 0, 0, 0, 0, 0, 0, 255, 255, 255, 255, 255, 255, 255, 255, 0, 0, 0, 0, 0, 0, 0, 0}},
		{codec.Request{Header: api.Header{Op: api.OpCircle}, Regions: regions{}, Points: points{{X: 1 << 62}, {Y: math.MinInt64}, {X: math.MaxInt64}, {X: 0x0102030405060708, Y: -256}}, Queries: queries{}},
			[]byte{2, 0, 0, 0, 0, 0, 0, 0, 64, 0, 0, 0, 0, 0, 0, 0, 0, 0, 0, 0, 0, 0, 0, 0, 0, 0, 0, 0, 0, 0, 0, 0, 128, 255, 255, 255, 255, 255, 255, 255, 127, 0, 0, 0, 0, 0, 0, 0, 0, 8, 7, 6, 5, 4, 3, 2, 1, 0, 255, 255, 255, 255, 255, 255, 255}},
		{codec.Request{Header: api.Header{Op: api.OpConvex, Vertices: 3}, Points: points{{X: 1}, {X: 2}, {X: 3}, {X: 4}}},
			[]byte{3, 3, 1, 0, 0, 0, 0, 0, 0, 0, 0, 0, 0, 0, 0, 0, 0, 0, 2, 0, 0, 0, 0, 0, 0, 0, 0, 0, 0, 0, 0, 0, 0, 0, 3, 0, 0, 0, 0, 0, 0, 0, 0, 0, 0, 0, 0, 0, 0, 0, 4, 0, 0, 0, 0, 0, 0, 0, 0, 0, 0, 0, 0, 0, 0, 0}},
		{codec.Request{Header: api.Header{Op: api.OpFence, Regions: kinds(128)}, Regions: regions{{Deny: true, Points: points{{Y: 1}, {Y: 2}, {Y: 3}}}}, Points: points{{Y: 4}}},
			[]byte{4, 1, 128, 0, 0, 0, 0, 0, 0, 0, 0, 1, 0, 0, 0, 0, 0, 0, 0, 0, 0, 0, 0, 0, 0, 0, 0, 2, 0, 0, 0, 0, 0, 0, 0, 0, 0, 0, 0, 0, 0, 0, 0, 3, 0, 0, 0, 0, 0, 0, 0, 0, 0, 0, 0, 0, 0, 0, 0, 4, 0, 0, 0, 0, 0, 0, 0}},
		{codec.Request{Header: batch(2, 3), Regions: regions{{Vertices: 3, Points: points{{X: 1}, {X: 2}, {X: 3}}}}, Queries: queries{{Point: api.Point{X: 4, Y: 5}, ID: 6}, {Point: api.Point{X: -7}, ID: math.MaxUint64 - 8}}},
			[]byte{5, 1, 3, 2, 0, 1, 0, 0, 0, 0, 0, 0, 0, 0, 0, 0, 0, 0, 0, 0, 0, 2, 0, 0, 0, 0, 0, 0, 0, 0, 0, 0, 0, 0, 0, 0, 0, 3, 0, 0, 0, 0, 0, 0, 0, 0, 0, 0, 0, 0, 0, 0, 0,
				4, 0, 0, 0, 0, 0, 0, 0, 5, 0, 0, 0, 0, 0, 0, 0, 6, 0, 0, 0, 0, 0, 0, 0, 249, 255, 255, 255, 255, 255, 255, 255, 0, 0, 0, 0, 0, 0, 0, 0, 247, 255, 255, 255, 255, 255, 255, 255}},
	} {
		if b, errno := codec.Encode(c.r); !bytes.Equal(b, c.want) || errno != api.OK {
			t.Errorf("Encode of %v = %d and %v, want %d and OK", c.r, b, errno, c.want)
		}
		if r, errno := codec.Decode(c.want); !equalRequests(r, c.r) || errno != api.OK {
			t.Errorf("Decode of %d = %v and %v, want %v and OK", c.want, r, errno, c.r)
		}
	}
}

func TestEncodeErrors(t *testing.T) {
	disc, triangle := api.Region{Points: make(points, 3)}, api.Region{Vertices: 3, Points: make(points, 3)}
	fence, both := api.Header{Op: 4, Regions: kinds(0)}, api.Header{Op: 4, Regions: kinds(0, 3)}
	denying, short := disc, triangle
	denying.Deny, short.Points = true, short.Points[:2]
	one, square := make(points, 1), api.Region{Vertices: 4, Points: make(points, 4)}
	for i, c := range []struct {
		r    codec.Request
		want api.Errno
	}{
		{codec.Request{}, api.ErrOp},
		{codec.Request{Header: api.Header{Op: 6}, Points: make(points, 3)}, api.ErrOp},
		{codec.Request{Header: api.Header{Op: 3, Vertices: 2}, Points: make(points, 3)}, api.ErrCount},
		{codec.Request{Header: api.Header{Op: 4}, Points: one}, api.ErrCount},
		{codec.Request{Header: api.Header{Op: 4, Regions: kinds(2)}, Regions: regions{{Vertices: 2, Points: make(points, 2)}}, Points: one}, api.ErrRegion},
		{codec.Request{Header: api.Header{Op: 4, Regions: regions{disc}}, Regions: regions{disc}, Points: one}, api.ErrArg},
		{codec.Request{Header: api.Header{Op: 1, Points: 1}, Points: make(points, 3), Queries: make(queries, 1)}, api.ErrArg},
		{codec.Request{Header: api.Header{Op: 1}}, api.ErrLength},
		{codec.Request{Header: api.Header{Op: 1}, Points: make(points, 2)}, api.ErrLength},
		{codec.Request{Header: api.Header{Op: 1}, Points: make(points, 4)}, api.ErrLength},
		{codec.Request{Header: api.Header{Op: 1}, Points: make(points, 3+256)}, api.ErrLength},
		{codec.Request{Header: api.Header{Op: 2}, Points: make(points, 3)}, api.ErrLength},
		{codec.Request{Header: api.Header{Op: 3, Vertices: 4}, Points: make(points, 4)}, api.ErrLength},
		{codec.Request{Header: api.Header{Op: 3, Vertices: 4}, Points: make(points, 6)}, api.ErrLength},
		{codec.Request{Header: api.Header{Op: 1}, Regions: regions{disc}, Points: make(points, 3)}, api.ErrLength},
		{codec.Request{Header: api.Header{Op: 2}, Points: make(points, 4), Queries: make(queries, 1)}, api.ErrLength},
		{codec.Request{Header: fence, Regions: regions{disc}}, api.ErrLength},
		{codec.Request{Header: fence, Regions: regions{disc}, Points: make(points, 2)}, api.ErrLength},
		{codec.Request{Header: fence, Points: one}, api.ErrLength},
		{codec.Request{Header: fence, Regions: regions{disc, disc}, Points: one}, api.ErrLength},
		{codec.Request{Header: fence, Regions: regions{square}, Points: one}, api.ErrLength},
		{codec.Request{Header: fence, Regions: regions{{Points: make(points, 4)}}, Points: one}, api.ErrLength},
		{codec.Request{Header: fence, Regions: regions{{}}, Points: one}, api.ErrLength},
		{codec.Request{Header: fence, Regions: regions{triangle}, Points: one}, api.ErrArg},
		{codec.Request{Header: fence, Regions: regions{denying}, Points: one}, api.ErrArg},
		{codec.Request{Header: fence, Regions: regions{{Vertices: -1, Points: disc.Points}}, Points: one}, api.ErrArg},
		{codec.Request{Header: fence, Regions: regions{{Vertices: 128, Points: disc.Points}}, Points: one}, api.ErrArg},
		{codec.Request{Header: fence, Regions: regions{denying}}, api.ErrLength},
		{codec.Request{Header: both, Regions: regions{denying, short}, Points: one}, api.ErrLength},
		{codec.Request{Header: both, Regions: regions{short, denying}, Points: one}, api.ErrLength},
		{codec.Request{Header: both, Regions: regions{triangle, disc}, Points: one}, api.ErrArg},
		{codec.Request{Header: both, Regions: regions{denying, triangle}, Points: make(points, 2)}, api.ErrLength},
		{codec.Request{Header: batch(2, 0), Regions: regions{disc}, Queries: make(queries, 1)}, api.ErrLength},
		{codec.Request{Header: batch(2, 0), Regions: regions{disc}, Queries: make(queries, 3)}, api.ErrLength},
		{codec.Request{Header: batch(2, 0), Regions: regions{disc}, Points: one, Queries: make(queries, 2)}, api.ErrLength},
		{codec.Request{Header: batch(2, 0), Regions: regions{denying}, Queries: make(queries, 1)}, api.ErrLength},
		{codec.Request{Header: batch(2, 0), Regions: regions{denying}, Queries: make(queries, 2)}, api.ErrArg},
	} {
		if b, errno := codec.Encode(c.r); len(b) != 0 || errno != c.want {
			t.Errorf("case %d: Encode of %v = %d and %v, want nothing and %v", i, c.r, b, errno, c.want)
		}
	}
}

// TestEncodeCombinations gives requests with each header the lists of requests with other headers.
func TestEncodeCombinations(t *testing.T) {
	random := source(1)
	var l []codec.Request
	for _, h := range small {
		l = append(l, requestFor(random, h))
	}
	withRegions := slices.Clone(l[4].Regions)
	withRegions[0].Deny = true
	l = append(l, codec.Request{}, codec.Request{Regions: withRegions, Points: make(points, 1), Queries: make(queries, 1)}, codec.Request{Regions: regions{{Vertices: 4, Points: make(points, 3)}}, Points: make(points, 3+256), Queries: make(queries, 256)})
	for _, h := range slices.Concat(small, invalidHeaders) {
		for _, a := range l {
			for _, b := range l {
				for _, c := range l {
					checkEncode(t, codec.Request{Header: h, Regions: a.Regions, Points: b.Points, Queries: c.Queries})
				}
			}
		}
	}
}

// TestEncodeNumbers gives each list of requests each length near the right one, and some others.
func TestEncodeNumbers(t *testing.T) {
	disc := api.Region{Points: make(points, 3)}
	for _, h := range small {
		right := requestFor(source(2), h)
		for n := range 530 {
			r := right
			r.Points = make(points, n)
			checkEncode(t, r)
			r = right
			r.Queries = make(queries, n)
			checkEncode(t, r)
			r = right
			r.Regions = slices.Repeat(regions{disc}, n)
			checkEncode(t, r)
			for i := range right.Regions {
				r.Regions = slices.Clone(right.Regions)
				r.Regions[i].Points = make(points, n)
				checkEncode(t, r)
			}
		}
		for _, n := range []int{1 << 16, 1<<16 + 1, 1<<16 + 3, 1<<16 + 4} {
			r := right
			r.Points = make(points, n)
			checkEncode(t, r)
			r = right
			r.Queries = make(queries, n)
			checkEncode(t, r)
		}
	}
}

// TestEncodeRegionsAtEachPlace has a region other than that of the header at each place of a fence, and two regions each of which is wrong otherwise.
func TestEncodeRegionsAtEachPlace(t *testing.T) {
	changes := []func(*api.Region){
		func(g *api.Region) { g.Deny = !g.Deny },
		func(g *api.Region) { g.Vertices++ },
		func(g *api.Region) { g.Vertices = 0 },
		func(g *api.Region) { g.Vertices = 3 },
		func(g *api.Region) { g.Vertices += 128 },
		func(g *api.Region) { g.Vertices += 256 },
		func(g *api.Region) { g.Vertices = math.MinInt },
		func(g *api.Region) { g.Points = g.Points[min(1, len(g.Points)):] },
		func(g *api.Region) { g.Points = append(slices.Clip(g.Points), api.Point{}) },
		func(g *api.Region) { g.Points = nil },
		func(g *api.Region) { g.Vertices++; g.Points = append(slices.Clip(g.Points), api.Point{}) },
	}
	for _, kind := range []byte{0, 3, 128, 133} {
		for _, n := range []int{1, 2, 5, 64} {
			for _, h := range []api.Header{{Op: 4, Regions: slices.Repeat(kinds(kind), n)}, batch(2, bytes.Repeat([]byte{kind}, n)...)} {
				right := requestFor(source(3), h)
				for i := range n {
					for _, change := range changes {
						r := right
						r.Regions = slices.Clone(right.Regions)
						change(&r.Regions[i])
						checkEncode(t, r)
						for _, other := range changes {
							s := r
							s.Regions = slices.Clone(r.Regions)
							other(&s.Regions[n-1-i])
							checkEncode(t, s)
						}
					}
				}
			}
		}
	}
}

// TestEncodeOrderOfRegions exchanges regions with the same numbers of points.
func TestEncodeOrderOfRegions(t *testing.T) {
	r := requestFor(source(4), api.Header{Op: 4, Regions: kinds(0, 3, 128, 131)})
	for i := range 4 {
		for j := range 4 {
			s := cloned(r)
			s.Regions[i], s.Regions[j] = s.Regions[j], s.Regions[i]
			checkEncode(t, s)
		}
	}
}

// TestBits sets each single bit of each number in requests, which must be at its place in the bytes.
func TestBits(t *testing.T) {
	for _, h := range small {
		form, _ := header.Format(h)
		n := len(form)
		for bit := range header.Payload(h) * 8 {
			b := append(slices.Clip(form), make([]byte, header.Payload(h))...)
			b[n+bit/8] = 1 << (bit % 8)
			r := codec.Request{Header: h, Regions: clonedRegions(h.Regions), Points: make(points, others(h)), Queries: make(queries, h.Points)}
			var numbers []func(uint64)
			addPoints := func(l points) {
				for i := range l {
					numbers = append(numbers, func(x uint64) { l[i].X = int64(x) }, func(x uint64) { l[i].Y = int64(x) })
				}
			}
			for i := range r.Regions {
				r.Regions[i].Points = make(points, size(r.Regions[i]))
				addPoints(r.Regions[i].Points)
			}
			addPoints(r.Points)
			for i := range r.Queries {
				q := &r.Queries[i]
				numbers = append(numbers, func(x uint64) { q.Point.X = int64(x) }, func(x uint64) { q.Point.Y = int64(x) }, func(x uint64) { q.ID = x })
			}
			numbers[bit/64](1 << (bit % 64))
			if got, errno := codec.Encode(r); !bytes.Equal(got, b) || errno != api.OK {
				t.Errorf("Encode of %v = %d and %v, want %d and OK", r, got, errno, b)
			}
			if got, errno := codec.Decode(b); !equalRequests(got, r) || errno != api.OK {
				t.Errorf("Decode of %d = %v and %v, want %v and OK", b, got, errno, r)
			}
		}
	}
}

// P18.2

func TestDecodeErrors(t *testing.T) {
	for _, c := range []struct {
		start []byte
		rest  int
		want  api.Errno
	}{
		{nil, 0, api.ErrShort},
		{[]byte{0}, 48, api.ErrOp},
		{[]byte{9}, 0, api.ErrOp},
		{[]byte{3}, 0, api.ErrShort},
		{[]byte{3, 2}, 48, api.ErrCount},
		{[]byte{4, 0}, 16, api.ErrCount},
		{[]byte{4, 2, 0}, 0, api.ErrShort},
		{[]byte{4, 1, 2}, 48, api.ErrRegion},
		{[]byte{5, 1, 0, 0, 0}, 48, api.ErrCount},
		{[]byte{1}, 0, api.ErrLength},
		{[]byte{1}, 47, api.ErrLength},
		{[]byte{1}, 49, api.ErrLength},
		{[]byte{2}, 48, api.ErrLength},
		{[]byte{3, 4}, 64, api.ErrLength},
		{[]byte{4, 1, 0}, 48, api.ErrLength},
		{[]byte{5, 1, 128, 2, 0}, 95, api.ErrLength},
		{[]byte{5, 1, 128, 2, 0}, 97, api.ErrLength},
		{[]byte{5, 1, 128, 2, 0}, 0, api.ErrLength},
	} {
		if r, errno := codec.Decode(append(c.start, make([]byte, c.rest)...)); !equalRequests(r, codec.Request{}) || errno != c.want {
			t.Errorf("Decode of %d and %d further bytes = %v and %v, want nothing and %v", c.start, c.rest, r, errno, c.want)
		}
	}
}

// TestDecodeStarts uses all beginnings of two bytes, and some of three and five, alone and with others after them.
func TestDecodeStarts(t *testing.T) {
	var lists [][]byte
	for x := range 1 << 16 {
		lists = append(lists, []byte{byte(x), byte(x >> 8)})
	}
	for x := range 256 {
		lists = append(lists, []byte{byte(x)}, []byte{4, 1, byte(x)}, []byte{5, 1, byte(x), 1, 0}, []byte{5, 1, 0, byte(x), 0}, []byte{5, 1, 0, 0, byte(x)})
	}
	for _, b := range lists {
		for _, rest := range []int{0, 1, 47, 48, 62, 63, 64, 72} {
			checkDecode(t, append(slices.Clip(b), make([]byte, rest)...))
		}
	}
}

// TestDecodeLengths uses requests cut off or continued, also where the memory goes on.
func TestDecodeLengths(t *testing.T) {
	for seed, h := range small {
		b, _ := encode(requestFor(source(uint64(seed)), h))
		whole := append(slices.Clip(b), b...)
		for n := range whole {
			want := header.Classify(whole[:n])
			if r, errno := codec.Decode(whole[:n]); errno != want || errno != api.OK && !equalRequests(r, codec.Request{}) || (errno == api.OK) != (n == len(b)) {
				t.Errorf("Decode of the first %d bytes of %d = %v and %v, want %v", n, whole, r, errno, want)
			}
			checkDecode(t, bytes.Clone(whole[:n]))
		}
	}
}

// TestDecodePayloads uses payloads of equal bytes, and ordinary ones.
func TestDecodePayloads(t *testing.T) {
	for seed, h := range samples() {
		random := source(uint64(seed))
		form, _ := header.Format(h)
		b := append(slices.Clip(form), make([]byte, header.Payload(h))...)
		for _, x := range []byte{0, 1, 127, 128, 255} {
			for i := len(form); i < len(b); i++ {
				b[i] = x
			}
			checkDecode(t, b)
		}
		for range 3 {
			for i := len(form); i < len(b); i++ {
				b[i] = byte(random.Uint32())
			}
			checkDecode(t, b)
		}
	}
}

// TestDecodeAllocates changes the bytes and parts of the results of Decode, which must not change any other part.
func TestDecodeAllocates(t *testing.T) {
	b, _ := encode(requestFor(source(5), batch(3, 0, 131, 128, 4)))
	want, _ := decode(b)
	given := slices.Clone(b)
	r, _ := codec.Decode(given)
	other, _ := codec.Decode(given)
	clear(given)
	for i := range r.Regions {
		_ = append(r.Regions[i].Points, api.Point{X: 1})
	}
	_ = append(r.Regions, api.Region{Vertices: 1})
	_ = append(r.Header.Regions, api.Region{Vertices: 2})
	_ = append(r.Points, api.Point{X: 1})
	_ = append(r.Queries, api.Query{ID: 1})
	if !equalRequests(r, want) || !equalRequests(other, want) {
		t.Errorf("after the bytes were cleared and lists were appended to, Decode's results are %v and %v, want %v", r, other, want)
	}
	r.Header.Regions[1] = api.Region{Deny: true, Vertices: 9}
	clear(r.Header.Regions[0].Points)
	if !slices.EqualFunc(r.Regions, want.Regions, equalRegions) {
		t.Errorf("the Regions of a result changed with those of its header to %v, want %v", r.Regions, want.Regions)
	}
	clear(r.Regions[2].Points)
	r.Regions[3] = api.Region{}
	clear(r.Queries)
	if !equalRequests(other, want) {
		t.Errorf("a result changed with another one to %v, want %v", other, want)
	}
	if again, errno := codec.Decode(b); !equalRequests(again, want) || errno != api.OK {
		t.Errorf("Decode of %d = %v and %v after a change of earlier results", b, again, errno)
	}
}

// P18.3

func TestRespondExamples(t *testing.T) {
	for _, c := range []struct {
		h    api.Header
		a    codec.Answer
		want []byte
	}{
		{api.Header{Op: api.OpOrient}, codec.Answer{Value: 2}, []byte{0, 2}},
		{api.Header{Op: api.OpOrient}, codec.Answer{}, []byte{0, 0}},
		{api.Header{Op: api.OpCircle}, codec.Answer{Value: 1, Records: records{}}, []byte{0, 1}},
		{api.Header{Op: api.OpConvex, Vertices: 64}, codec.Answer{Value: 3}, []byte{0, 3}},
		{api.Header{Op: api.OpFence, Regions: kinds(131)}, codec.Answer{Value: 2}, []byte{0, 2}},
		{batch(1, 0), codec.Answer{Records: records{{}}}, []byte{0, 0, 0, 0, 0, 0, 0, 0, 0, 0, 0, 0, 0}},
		{batch(1, 0), codec.Answer{Value: 1, Records: records{{}}}, []byte{0, 1, 0, 0, 0, 0, 0, 0, 0, 0, 0, 0, 0}},
		{batch(1, 0), codec.Answer{Value: 1, Count: 1, Records: records{{Live: 1}}}, []byte{0, 1, 1, 0, 1, 0, 0, 0, 0, 0, 0, 0, 0}},
		{batch(3, 0), codec.Answer{Value: 1, Count: 2, Records: records{{Live: 1, ID: 0x0203}, {Live: 1, ID: math.MaxUint64}, {}}}, []byte{0, 1, 2, 0, 1, 3, 2, 0, 0, 0, 0, 0, 0, 1, 255, 255, 255, 255, 255, 255, 255, 255, 0, 0, 0, 0, 0, 0, 0, 0, 0}},
		{batch(2, 128), codec.Answer{Value: 1, Count: 2, Records: records{{Live: 1, ID: 0x0807060504030201}, {Live: 1}}}, []byte{0, 1, 2, 0, 1, 1, 2, 3, 4, 5, 6, 7, 8, 1, 0, 0, 0, 0, 0, 0, 0, 0}},
	} {
		if b, errno := codec.Respond(c.h, c.a); !bytes.Equal(b, c.want) || errno != api.OK {
			t.Errorf("Respond for %v and %v = %d and %v, want %d and OK", c.h, c.a, b, errno, c.want)
		}
		if a, errno := codec.Read(c.h, c.want); !equalAnswers(a, c.a) || errno != api.OK {
			t.Errorf("Read for %v of %d = %v and %v, want %v and OK", c.h, c.want, a, errno, c.a)
		}
	}
}

// TestRespondGreatBatch has a Count of two bytes.
func TestRespondGreatBatch(t *testing.T) {
	b, errno := codec.Respond(batch(4096, 0), partly(4096, 4095))
	if len(b) != 36868 || errno != api.OK || !bytes.Equal(b[:5], []byte{0, 1, 255, 15, 1}) || b[36868-9] != 0 || b[36868-18] != 1 {
		t.Errorf("Respond for a batch of 4096 points returns %d bytes and %v", len(b), errno)
	}
}

func TestRespondErrors(t *testing.T) {
	alive, dead := api.Record{Live: 1, ID: 7}, api.Record{}
	fence := api.Header{Op: 4, Regions: kinds(0)}
	for _, c := range []struct {
		h    api.Header
		a    codec.Answer
		want api.Errno
	}{
		{api.Header{}, codec.Answer{}, api.ErrOp},
		{api.Header{Op: 6}, codec.Answer{Value: 9}, api.ErrOp},
		{api.Header{Op: 3}, codec.Answer{Value: 9}, api.ErrCount},
		{api.Header{Op: 4, Regions: kinds(1)}, codec.Answer{}, api.ErrRegion},
		{batch(0, 0), codec.Answer{}, api.ErrCount},
		{api.Header{Op: 1, Points: 1}, codec.Answer{Value: -1}, api.ErrArg},
		{api.Header{Op: 1}, codec.Answer{Value: 3}, api.ErrInvalid},
		{api.Header{Op: 2}, codec.Answer{Value: -1}, api.ErrInvalid},
		{api.Header{Op: 2}, codec.Answer{Value: 256}, api.ErrInvalid},
		{fence, codec.Answer{Value: 3}, api.ErrInvalid},
		{api.Header{Op: 3, Vertices: 3}, codec.Answer{Value: 4}, api.ErrInvalid},
		{fence, codec.Answer{Value: 1, Count: 1}, api.ErrInvalid},
		{fence, codec.Answer{Value: 1, Count: -1}, api.ErrInvalid},
		{fence, codec.Answer{Value: 1, Records: records{dead}}, api.ErrInvalid},
		{fence, codec.Answer{Value: 1, Count: 1, Records: records{alive}}, api.ErrInvalid},
		{batch(1, 0), codec.Answer{Value: 2, Records: records{dead}}, api.ErrInvalid},
		{batch(1, 0), codec.Answer{Value: 2, Count: 1, Records: records{alive}}, api.ErrInvalid},
		{batch(1, 0), codec.Answer{}, api.ErrInvalid},
		{batch(1, 0), codec.Answer{Records: records{dead, dead}}, api.ErrInvalid},
		{batch(1, 0), codec.Answer{Count: 1, Records: records{alive}}, api.ErrInvalid},
		{batch(1, 0), codec.Answer{Count: 1, Records: records{dead}}, api.ErrInvalid},
		{batch(1, 0), codec.Answer{Records: records{alive}}, api.ErrInvalid},
		{batch(1, 0), codec.Answer{Value: 1, Records: records{alive}}, api.ErrInvalid},
		{batch(1, 0), codec.Answer{Value: 1, Records: records{{ID: 7}}}, api.ErrInvalid},
		{batch(1, 0), codec.Answer{Value: 1, Count: 1, Records: records{{ID: 7}}}, api.ErrInvalid},
		{batch(1, 0), codec.Answer{Value: 1, Count: 1, Records: records{{Live: 3, ID: 7}}}, api.ErrInvalid},
		{batch(1, 0), codec.Answer{Value: 1, Count: 1, Records: records{{Live: math.MaxUint64, ID: 7}}}, api.ErrInvalid},
		{batch(1, 0), codec.Answer{Value: 1, Records: records{{Live: 2}}}, api.ErrInvalid},
		{batch(1, 0), codec.Answer{Value: 1, Count: 2, Records: records{alive}}, api.ErrInvalid},
		{batch(1, 0), codec.Answer{Value: 1, Count: 2, Records: records{alive, alive}}, api.ErrInvalid},
		{batch(1, 0), codec.Answer{Value: 1, Count: -1, Records: records{dead}}, api.ErrInvalid},
		{batch(2, 0), codec.Answer{Value: 1, Count: 1, Records: records{dead, alive}}, api.ErrInvalid},
		{batch(2, 0), codec.Answer{Value: 1, Count: 1, Records: records{alive, alive}}, api.ErrInvalid},
		{batch(2, 0), codec.Answer{Value: 1, Count: 2, Records: records{alive, dead}}, api.ErrInvalid},
		{batch(2, 0), codec.Answer{Value: 1, Count: 1, Records: records{alive}}, api.ErrInvalid},
	} {
		if b, errno := codec.Respond(c.h, c.a); len(b) != 0 || errno != c.want {
			t.Errorf("Respond for %v and %v = %d and %v, want nothing and %v", c.h, c.a, b, errno, c.want)
		}
	}
}

// TestRespondNumbers combines Values, Counts and numbers of records, for each operation and for headers with errors.
func TestRespondNumbers(t *testing.T) {
	numbers := slices.Concat(strange, []int{0, 1, 2, 3, 6})
	for _, h := range slices.Concat(small, invalidHeaders) {
		for _, value := range numbers {
			for _, count := range numbers {
				for n := range 5 {
					for live := range n + 1 {
						checkRespond(t, h, codec.Answer{Value: value, Count: count, Records: partly(n, live).Records})
					}
				}
			}
		}
	}
}

// TestRespondCounts combines each Count with each number of live records of a batch.
func TestRespondCounts(t *testing.T) {
	for _, n := range []int{1, 2, 3, 7, 20} {
		for value := -1; value <= 2; value++ {
			for live := range n + 1 {
				for count := -3; count <= n+3; count++ {
					checkRespond(t, batch(n, 0), codec.Answer{Value: value, Count: count, Records: partly(n, live).Records})
				}
			}
		}
	}
}

// TestRespondOtherRecords changes each record of answers to another one, and each single bit of records.
func TestRespondOtherRecords(t *testing.T) {
	for _, n := range []int{1, 2, 5, 12} {
		for count := range n + 1 {
			for i := range n {
				for _, x := range (records{{}, {Live: 1}, {ID: 1}, {Live: 1, ID: math.MaxUint64}, {ID: 1 << 63}, {Live: 2}, {Live: 3, ID: 1}, {Live: 256}, {Live: 257}, {Live: math.MaxUint64}, {Live: 1<<63 + 1}}) {
					for value := range 2 {
						a := partly(n, count)
						a.Value, a.Records[i] = value, x
						checkRespond(t, batch(n, 3), a)
					}
				}
				for bit := range 64 {
					a := partly(n, count)
					a.Records[i].Live ^= 1 << bit
					checkRespond(t, batch(n, 0), a)
					a = partly(n, count)
					a.Records[i].ID ^= 1 << bit
					checkRespond(t, batch(n, 0), a)
				}
			}
		}
	}
}

// TestRespondTwoOtherRecords changes two records such that their differences from the right ones are equal, or add up to a power of two.
func TestRespondTwoOtherRecords(t *testing.T) {
	for bit := range 64 {
		for _, x := range []uint64{1 << bit, -(1 << bit)} {
			for _, y := range []uint64{1 << bit, -(1 << bit)} {
				for count := range 3 {
					a := partly(4, count)
					a.Records[2].ID, a.Records[3].ID = x, y
					checkRespond(t, batch(4, 0), a)
					a = partly(4, count)
					a.Records[0].Live ^= x
					a.Records[3].Live ^= y
					checkRespond(t, batch(4, 0), a)
					a = partly(4, count)
					a.Records[2] = api.Record{Live: x, ID: y}
					checkRespond(t, batch(4, 0), a)
				}
			}
		}
	}
}

// TestRespondAnyOrder has identifiers that are not in order, and repeated ones.
func TestRespondAnyOrder(t *testing.T) {
	for _, ids := range [][]uint64{{3, 2, 1}, {5, 5, 5}, {math.MaxUint64, 0, 7}, {0, 0, 0}} {
		a := full(3)
		for i, id := range ids {
			a.Records[i].ID = id
		}
		if b, errno := codec.Respond(batch(3, 0), a); len(b) != 31 || errno != api.OK {
			t.Errorf("Respond for %v = %d and %v, want its encoding and OK", a, b, errno)
		}
		checkRespond(t, batch(3, 0), a)
	}
}

// P18.4

func TestReadErrors(t *testing.T) {
	orient, convex := api.Header{Op: 1}, api.Header{Op: 3, Vertices: 3}
	for _, c := range []struct {
		h    api.Header
		b    []byte
		want api.Errno
	}{
		{api.Header{}, []byte{0, 1}, api.ErrOp},
		{api.Header{Op: 6}, []byte{4}, api.ErrOp},
		{api.Header{Op: 3, Vertices: 65}, nil, api.ErrCount},
		{api.Header{Op: 4, Regions: kinds(2)}, []byte{8}, api.ErrRegion},
		{batch(4097, 0), []byte{8}, api.ErrCount},
		{api.Header{Op: 1, Points: 1}, []byte{0, 1}, api.ErrArg},
		{orient, []byte{4}, api.ErrShort},
		{orient, []byte{5}, api.ErrOp},
		{orient, []byte{6}, api.ErrCount},
		{orient, []byte{7}, api.ErrRegion},
		{orient, []byte{8}, api.ErrLength},
		{batch(2, 0), []byte{8}, api.ErrLength},
		{orient, []byte{0}, api.ErrInvalid},
		{orient, []byte{1}, api.ErrInvalid},
		{orient, []byte{3}, api.ErrInvalid},
		{orient, []byte{9}, api.ErrInvalid},
		{orient, []byte{10}, api.ErrInvalid},
		{orient, []byte{255}, api.ErrInvalid},
		{batch(2, 0), []byte{0}, api.ErrInvalid},
		{orient, nil, api.ErrLength},
		{orient, []byte{}, api.ErrLength},
		{orient, []byte{0, 1, 0}, api.ErrLength},
		{orient, []byte{8, 8, 8}, api.ErrLength},
		{batch(1, 0), []byte{0, 1}, api.ErrLength},
		{batch(1, 0), make([]byte, 12), api.ErrLength},
		{batch(1, 0), make([]byte, 14), api.ErrLength},
		{batch(2, 0), nil, api.ErrLength},
		{orient, []byte{1, 0}, api.ErrInvalid},
		{orient, []byte{8, 0}, api.ErrInvalid},
		{orient, []byte{0, 3}, api.ErrInvalid},
		{orient, []byte{0, 255}, api.ErrInvalid},
		{convex, []byte{0, 4}, api.ErrInvalid},
		{batch(1, 0), []byte{4, 1, 0, 0, 0, 0, 0, 0, 0, 0, 0, 0, 0}, api.ErrInvalid},
		{batch(1, 0), []byte{0, 2, 0, 0, 0, 0, 0, 0, 0, 0, 0, 0, 0}, api.ErrInvalid},
		{batch(1, 0), []byte{0, 1, 1, 0, 0, 0, 0, 0, 0, 0, 0, 0, 0}, api.ErrInvalid},
		{batch(1, 0), []byte{0, 0, 1, 0, 1, 0, 0, 0, 0, 0, 0, 0, 0}, api.ErrInvalid},
		{batch(1, 0), []byte{0, 1, 0, 1, 0, 0, 0, 0, 0, 0, 0, 0, 0}, api.ErrInvalid},
		{batch(1, 0), []byte{0, 1, 1, 1, 1, 0, 0, 0, 0, 0, 0, 0, 0}, api.ErrInvalid},
		{batch(1, 0), []byte{0, 1, 1, 0, 2, 0, 0, 0, 0, 0, 0, 0, 0}, api.ErrInvalid},
		{batch(1, 0), []byte{0, 1, 0, 0, 0, 0, 0, 0, 0, 0, 0, 0, 1}, api.ErrInvalid},
		{batch(1, 0), []byte{0, 1, 2, 0, 1, 0, 0, 0, 0, 0, 0, 0, 0}, api.ErrInvalid},
	} {
		if a, errno := codec.Read(c.h, c.b); !equalAnswers(a, codec.Answer{}) || errno != c.want {
			t.Errorf("Read for %v of %d = %v and %v, want nothing and %v", c.h, c.b, a, errno, c.want)
		}
	}
}

// TestReadShortResponses uses all responses of up to two bytes, and some of three.
func TestReadShortResponses(t *testing.T) {
	for _, h := range slices.Concat(small, invalidHeaders) {
		checkRead(t, h, nil)
		for x := range 256 {
			checkRead(t, h, []byte{byte(x)})
			checkRead(t, h, []byte{0, 0, byte(x)})
			checkRead(t, h, []byte{byte(x), 0, 0})
		}
		for x := range 1 << 16 {
			checkRead(t, h, []byte{byte(x), byte(x >> 8)})
		}
	}
}

// TestReadLengths uses responses of each length near the right one, and some others.
func TestReadLengths(t *testing.T) {
	for seed, h := range slices.Concat(small, []api.Header{batch(28, 0), batch(29, 0), batch(300, 0)}) {
		b, _ := respond(h, answerFor(source(uint64(seed)), h))
		whole := append(slices.Clip(b), b...)
		for n := range whole {
			a, errno := codec.Read(h, whole[:n])
			want, wantErrno := read(h, whole[:n])
			if !equalAnswers(a, want) || errno != wantErrno || n != 1 && (errno == api.ErrLength) != (n != len(b)) {
				t.Errorf("Read for %v of the first %d bytes of %d = %v and %v, want %v and %v", h, n, whole, a, errno, want, wantErrno)
			}
			checkRead(t, h, bytes.Clone(whole[:n]))
		}
		for _, n := range []int{len(b) + 256, len(b) + 1<<16} {
			checkRead(t, h, append(slices.Clip(b), make([]byte, n-len(b))...))
		}
	}
}

// TestReadBytesAtEachPlace changes each byte of responses to each other one.
func TestReadBytesAtEachPlace(t *testing.T) {
	for _, n := range []int{1, 2, 5} {
		for count := range n + 1 {
			for value := range 2 {
				a := partly(n, count)
				right, _ := respond(batch(n, 0), a)
				right[1] = byte(value)
				for i := range right {
					for x := range 256 {
						b := slices.Clone(right)
						b[i] = byte(x)
						checkRead(t, batch(n, 0), b)
					}
				}
			}
		}
	}
}

// TestReadFewBytes uses responses for one point that consist of few different bytes.
func TestReadFewBytes(t *testing.T) {
	l := []byte{0, 1, 2, 255}
	for x := range 1 << 14 {
		b := make([]byte, 13)
		for i, place := range []int{0, 1, 2, 3, 4, 5, 12} {
			b[place] = l[x>>(2*i)&3]
		}
		checkRead(t, batch(1, 0), b)
	}
}

// TestReadCounts uses each Count with different numbers of live records.
func TestReadCounts(t *testing.T) {
	for _, n := range []int{1, 2, 255, 256, 257, 600} {
		for _, live := range []int{0, 1, n / 2, n - 1, n} {
			b, _ := respond(batch(n, 0), partly(n, live))
			for count := range 1 << 16 {
				if n > 2 && count > 2*n && count%256 > 2 {
					continue
				}
				b[2], b[3] = byte(count), byte(count>>8)
				checkRead(t, batch(n, 0), b)
			}
		}
	}
	for count := range 4097 {
		h, a := batch(4096, 0), partly(4096, count)
		if b, errno := codec.Respond(h, a); errno != api.OK || int(binary.LittleEndian.Uint16(b[2:])) != count {
			t.Errorf("Respond for a batch of 4096 points and the Count %d returns %d bytes and %v", count, len(b), errno)
		} else if back, errno := codec.Read(h, b); !equalAnswers(back, a) || errno != api.OK {
			t.Errorf("Read of Respond for a batch of 4096 points and the Count %d returns the Count %d and %v", count, back.Count, errno)
		}
	}
}

// P18.5

// TestInverse uses ordinary requests, payloads and answers for each Vertices, for different regions and for different numbers of points.
func TestInverse(t *testing.T) {
	l := samples()
	for n := 3; n <= 64; n++ {
		l = append(l, api.Header{Op: 3, Vertices: n}, api.Header{Op: 4, Regions: kinds(byte(n), byte(n)+128)}, batch(n*n, byte(n)))
	}
	for seed := range uint64(60) {
		random := source(^seed)
		fence := make([]byte, 1+random.IntN(64))
		for i := range fence {
			fence[i] = []byte{0, 3, 4, 10, 64, 128, 131, 192}[random.IntN(8)]
		}
		l = append(l, api.Header{Op: 4, Regions: kinds(fence...)}, batch(1+random.IntN(4096), fence...))
	}
	for seed, h := range l {
		random := source(uint64(seed))
		for range 3 {
			r := requestFor(random, h)
			checkEncode(t, r)
			b, _ := encode(r)
			checkDecode(t, b)
			a := answerFor(random, h)
			checkRespond(t, h, a)
			b, _ = respond(h, a)
			checkRead(t, h, b)
		}
	}
}

// TestErrorsAreRead reads the single byte of each error that a request may have.
func TestErrorsAreRead(t *testing.T) {
	for _, request := range [][]byte{nil, {9}, {3, 2}, {4, 1, 2}, {1}} {
		want := header.Classify(request)
		for _, h := range small {
			if a, errno := codec.Read(h, []byte{byte(want)}); !equalAnswers(a, codec.Answer{}) || errno != want {
				t.Errorf("Read for %v of the error %v = %v and %v", h, want, a, errno)
			}
		}
	}
}

// Rules

// TestResultsAreSeparate changes arguments and results of calls, which must not change those of others.
func TestResultsAreSeparate(t *testing.T) {
	r := requestFor(source(6), batch(2, 0, 131))
	want, _ := encode(r)
	b, _ := codec.Encode(r)
	clear(r.Queries)
	clear(r.Regions[0].Points)
	if !bytes.Equal(b, want) {
		t.Errorf("a result of Encode changed with its argument to %d, want %d", b, want)
	}
	h, a := batch(3, 0), partly(3, 2)
	wantBytes, _ := respond(h, a)
	first, _ := codec.Respond(h, a)
	a.Records[0].ID++
	if !bytes.Equal(first, wantBytes) {
		t.Errorf("a result of Respond changed with its argument to %d, want %d", first, wantBytes)
	}
	clear(first)
	if again, errno := codec.Respond(h, partly(3, 2)); !bytes.Equal(again, wantBytes) || errno != api.OK {
		t.Errorf("Respond = %d and %v after a change of an earlier result, want %d", again, errno, wantBytes)
	}
	given := slices.Clone(wantBytes)
	x, _ := codec.Read(h, given)
	y, _ := codec.Read(h, given)
	clear(given)
	y.Records[1] = api.Record{}
	if !equalAnswers(x, partly(3, 2)) {
		t.Errorf("a result of Read changed with its argument or another result to %v", x)
	}
}

// TestPartsOfLists uses lists that are parts of longer ones, whose other elements must be neither read nor written.
func TestPartsOfLists(t *testing.T) {
	right := requestFor(source(7), batch(2, 0, 131))
	r := cloned(right)
	r.Regions = append(r.Regions, api.Region{Vertices: 1})[:2]
	r.Queries = append(r.Queries, api.Query{ID: 1})[:2]
	r.Points = make(points, 1)[:0]
	r.Regions[1].Points = append(r.Regions[1].Points, api.Point{X: 1})[:3]
	checkEncode(t, r)
	if r.Regions[:3][2].Vertices != 1 || r.Queries[:3][2].ID != 1 || r.Regions[1].Points[:4][3].X != 1 {
		t.Error("Encode wrote beyond the length of a list")
	}
	a := full(3)
	a.Records, a.Count = a.Records[:2], 2
	checkRespond(t, batch(2, 0), a)
	a.Records = a.Records[:1]
	checkRespond(t, batch(1, 0), a)
	a.Count = 1
	checkRespond(t, batch(1, 0), a)
	b, _ := respond(batch(2, 0), full(2))
	checkRead(t, batch(1, 0), b[:13])
	b[2] = 1
	checkRead(t, batch(1, 0), b[:13])
}

func TestConcurrentCalls(t *testing.T) {
	l := samples()
	var group sync.WaitGroup
	for range 8 {
		group.Go(func() {
			for seed, h := range l {
				if seed%5 != 0 && h.Points > 255 {
					continue
				}
				random := source(uint64(seed))
				r, a := requestFor(random, h), answerFor(random, h)
				b, errno := codec.Encode(r)
				back, again := codec.Decode(b)
				if errno != api.OK || again != api.OK || !equalRequests(back, r) {
					t.Errorf("a concurrent call for a request with the header %v returns something else", h)
				}
				b, errno = codec.Respond(h, a)
				answer, again := codec.Read(h, b)
				if errno != api.OK || again != api.OK || !equalAnswers(answer, a) {
					t.Errorf("a concurrent call for an answer with the header %v returns something else", h)
				}
			}
		})
	}
	group.Wait()
}
