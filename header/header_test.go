package header_test

import (
	"bytes"
	"math"
	"math/rand/v2"
	"slices"
	"sync"
	"testing"

	"geofence/api"
	"geofence/header"
)

// regions names the type of the lists of regions shortly.
type regions = []api.Region

func source(seed uint64) *rand.Rand { return rand.New(rand.NewPCG(seed, 17)) }

// kind returns the region with the given byte.
func kind(b byte) api.Region { return api.Region{Deny: b&128 != 0, Vertices: int(b & 127)} }

// kinds returns the regions with the given bytes.
func kinds(b ...byte) regions {
	var l regions
	for _, x := range b {
		l = append(l, kind(x))
	}
	return l
}

// isKind returns whether regions may have n vertices.
func isKind(n int) bool { return n == 0 || n >= 3 && n <= 64 }

// kindBytes returns the bytes of all regions.
func kindBytes() []byte {
	var l []byte
	for x := range 256 {
		if isKind(x % 128) {
			l = append(l, byte(x))
		}
	}
	return l
}

// strange are numbers that no field of a header has. Some of them would be permitted as numbers of 7, 8, 12, 16 or 32 bits.
var strange = []int{-1, -2, -3, -64, -128, -253, -256, -65535, -1<<32 + 1, -1<<32 + 3, -1 << 62, math.MinInt, math.MinInt + 1, math.MinInt + 3, 4097, 4099, 8192, 65535, 1 << 16, 1<<16 + 1, 1<<16 + 3, 1<<16 + 64, 1<<16 + 4096, 1 << 32, 1<<32 + 1, 1<<32 + 3, 1<<32 + 64, 1 << 62, math.MaxInt - 63, math.MaxInt}

// parse returns what Parse should return.
func parse(b []byte) (h api.Header, n int, errno api.Errno) {
	defer func() {
		if e := recover(); e != nil {
			h, n, errno = api.Header{}, 0, e.(api.Errno)
		}
	}()
	require := func(holds bool, e api.Errno) {
		if !holds {
			panic(e)
		}
	}
	take := func(k int) []byte {
		require(len(b) >= n+k, api.ErrShort)
		n += k
		return b[n-k : n]
	}
	h.Op = int(take(1)[0])
	require(h.Op != 0 && h.Op < 6, api.ErrOp)
	if h.Op == 3 {
		h.Vertices = int(take(1)[0])
		require(h.Vertices > 2 && h.Vertices < 65, api.ErrCount)
	}
	if h.Op > 3 {
		k := int(take(1)[0])
		require(k > 0 && k < 65, api.ErrCount)
		h.Regions = kinds(take(k)...)
		for _, g := range h.Regions {
			require(isKind(g.Vertices), api.ErrRegion)
		}
	}
	if h.Op == 5 {
		p := take(2)
		h.Points = int(p[0]) + 256*int(p[1])
		require(h.Points > 0 && h.Points < 4097, api.ErrCount)
	}
	return h, n, api.OK
}

// format returns what Format should return.
func format(h api.Header) ([]byte, api.Errno) {
	var number, wrongKind, unused bool
	for _, g := range h.Regions {
		wrongKind = wrongKind || !isKind(g.Vertices)
		unused = unused || len(g.Points) > 0
	}
	number = len(h.Regions) == 0 || len(h.Regions) > 64
	unused = unused || h.Op != 3 && h.Vertices != 0 || h.Op < 4 && len(h.Regions) > 0 || h.Op != 5 && h.Points != 0
	for _, c := range []struct {
		wrong bool
		errno api.Errno
	}{
		{h.Op < 1 || h.Op > 5, api.ErrOp},
		{h.Op == 3 && (h.Vertices < 3 || h.Vertices > 64), api.ErrCount},
		{h.Op >= 4 && number, api.ErrCount},
		{h.Op >= 4 && wrongKind, api.ErrRegion},
		{h.Op == 5 && (h.Points < 1 || h.Points > 4096), api.ErrCount},
		{unused, api.ErrArg},
	} {
		if c.wrong {
			return nil, c.errno
		}
	}
	return bytesOf(h), api.OK
}

// bytesOf returns the bytes of a header without errors.
func bytesOf(h api.Header) []byte {
	b := []byte{byte(h.Op)}
	switch h.Op {
	case 3:
		return append(b, byte(h.Vertices))
	case 4, 5:
		b = append(b, byte(len(h.Regions)))
		for _, g := range h.Regions {
			x := g.Vertices
			if g.Deny {
				x += 128
			}
			b = append(b, byte(x))
		}
	}
	if h.Op == 5 {
		b = append(b, byte(h.Points%256), byte(h.Points/256))
	}
	return b
}

// sizes returns the lengths of the payload and of the response for a header without errors.
func sizes(h api.Header) (int, int) {
	inRegions := 0
	for _, g := range h.Regions {
		if g.Vertices == 0 {
			inRegions += 3
		}
		inRegions += g.Vertices
	}
	switch h.Op {
	case 1:
		return 48, 2
	case 2:
		return 64, 2
	case 3:
		return 16*h.Vertices + 16, 2
	case 4:
		return 16*inRegions + 16, 2
	}
	return 16*inRegions + 24*h.Points, 4 + 9*h.Points
}

func equalRegions(g, h api.Region) bool {
	return g.Deny == h.Deny && g.Vertices == h.Vertices && slices.Equal(g.Points, h.Points)
}

func equal(g, h api.Header) bool {
	return g.Op == h.Op && g.Vertices == h.Vertices && slices.EqualFunc(g.Regions, h.Regions, equalRegions) && g.Points == h.Points
}

// cloned returns h in memory of its own.
func cloned(h api.Header) api.Header {
	h.Regions = slices.Clone(h.Regions)
	for i := range h.Regions {
		h.Regions[i].Points = slices.Clone(h.Regions[i].Points)
	}
	return h
}

// checkParse compares the result of Parse with what it should be, and with that of Format.
func checkParse(t *testing.T, b []byte) {
	t.Helper()
	kept := bytes.Clone(b)
	h, n, errno := header.Parse(b)
	wantH, wantN, wantErrno := parse(kept)
	if !equal(h, wantH) || n != wantN || errno != wantErrno {
		t.Errorf("Parse of %d = %v, %d and %v, want %v, %d and %v", kept, h, n, errno, wantH, wantN, wantErrno)
	}
	if errno == api.OK {
		if back, errno := header.Format(h); !bytes.Equal(back, kept[:n]) || errno != api.OK {
			t.Errorf("Format of the result of Parse of %d = %d and %v", kept, back, errno)
		}
	}
	if !bytes.Equal(b, kept) {
		t.Errorf("Parse changed %d to %d", kept, b)
	}
}

// checkHeader compares the results of Format, Payload and Response with what they should be, and with those of Parse and Classify.
func checkHeader(t *testing.T, h api.Header) {
	t.Helper()
	kept := cloned(h)
	b, errno := header.Format(h)
	payload, response := header.Payload(h), header.Response(h)
	wantB, wantErrno := format(kept)
	wantPayload, wantResponse := 0, 0
	if wantErrno == api.OK {
		wantPayload, wantResponse = sizes(kept)
	}
	if !bytes.Equal(b, wantB) || errno != wantErrno {
		t.Errorf("Format of %v = %d and %v, want %d and %v", kept, b, errno, wantB, wantErrno)
	}
	if payload != wantPayload || response != wantResponse {
		t.Errorf("Payload and Response of %v = %d and %d, want %d and %d", kept, payload, response, wantPayload, wantResponse)
	}
	if errno == api.OK {
		if back, n, errno := header.Parse(b); !equal(back, kept) || n != len(b) || errno != api.OK {
			t.Errorf("Parse of Format of %v = %v, %d and %v", kept, back, n, errno)
		}
		if got := header.Classify(append(b, make([]byte, wantPayload)...)); got != api.OK {
			t.Errorf("Classify of a request with the header %v = %v, want OK", kept, got)
		}
	}
	if !equal(h, kept) {
		t.Errorf("%v was changed to %v", kept, h)
	}
}

// someHeader returns a header without errors, and the same one for the same seed.
func someHeader(seed uint64) api.Header {
	random, all := source(seed), kindBytes()
	h := api.Header{Op: int(seed%5) + 1}
	if h.Op == 3 {
		h.Vertices = 3 + random.IntN(62)
	}
	if h.Op >= 4 {
		for range 1 + random.IntN(64) {
			h.Regions = append(h.Regions, kind(all[random.IntN(len(all))]))
		}
	}
	if h.Op == 5 {
		h.Points = 1 + random.IntN(4096)
	}
	return h
}

// samples are headers without errors: those at the bounds, and ordinary ones.
func samples() []api.Header {
	l := []api.Header{{Op: 1}, {Op: 2}}
	for _, n := range []int{3, 4, 63, 64} {
		l = append(l, api.Header{Op: 3, Vertices: n})
	}
	for _, fence := range []regions{kinds(0), kinds(128), kinds(3), kinds(64), kinds(131, 192), kinds(0, 3, 128, 192), slices.Repeat(kinds(0), 64), slices.Repeat(kinds(192), 64), slices.Repeat(kinds(5, 133, 128), 21)} {
		l = append(l, api.Header{Op: 4, Regions: fence})
		for _, n := range []int{1, 2, 255, 256, 257, 4095, 4096} {
			l = append(l, api.Header{Op: 5, Regions: fence, Points: n})
		}
	}
	for seed := range uint64(200) {
		l = append(l, someHeader(seed))
	}
	return l
}

// P17.1

func TestParseExamples(t *testing.T) {
	for _, c := range []struct {
		b []byte
		h api.Header
		n int
	}{
		{[]byte{1}, api.Header{Op: api.OpOrient}, 1},
		{[]byte{1, 0}, api.Header{Op: api.OpOrient}, 1},
		{[]byte{2}, api.Header{Op: api.OpCircle}, 1},
		{[]byte{2, 255, 255, 255}, api.Header{Op: api.OpCircle}, 1},
		{[]byte{3, 4}, api.Header{Op: api.OpConvex, Vertices: 4}, 2},
		{[]byte{3, 3}, api.Header{Op: api.OpConvex, Vertices: 3}, 2},
		{[]byte{3, 64, 0}, api.Header{Op: api.OpConvex, Vertices: 64}, 2},
		{[]byte{4, 1, 0}, api.Header{Op: api.OpFence, Regions: regions{{}}}, 3},
		{[]byte{4, 1, 128}, api.Header{Op: api.OpFence, Regions: regions{{Deny: true}}}, 3},
		{[]byte{4, 1, 64, 9}, api.Header{Op: api.OpFence, Regions: regions{{Vertices: 64}}}, 3},
		{[]byte{4, 3, 131, 0, 5, 2}, api.Header{Op: api.OpFence, Regions: regions{{Deny: true, Vertices: 3}, {}, {Vertices: 5}}}, 5},
		{[]byte{5, 1, 128, 2, 0}, api.Header{Op: api.OpBatch, Regions: regions{{Deny: true}}, Points: 2}, 5},
		{[]byte{5, 1, 3, 1, 2, 3}, api.Header{Op: api.OpBatch, Regions: regions{{Vertices: 3}}, Points: 513}, 5},
		{[]byte{5, 2, 192, 0, 255, 15}, api.Header{Op: api.OpBatch, Regions: regions{{Deny: true, Vertices: 64}, {}}, Points: 4095}, 6},
		{[]byte{5, 1, 0, 0, 16}, api.Header{Op: api.OpBatch, Regions: regions{{}}, Points: 4096}, 5},
		{[]byte{5, 1, 0, 1, 0}, api.Header{Op: api.OpBatch, Regions: regions{{}}, Points: 1}, 5},
	} {
		if h, n, errno := header.Parse(c.b); !equal(h, c.h) || n != c.n || errno != api.OK {
			t.Errorf("Parse of %d = %v, %d and %v, want %v, %d and OK", c.b, h, n, errno, c.h, c.n)
		}
	}
}

func TestParseErrors(t *testing.T) {
	for _, c := range []struct {
		b    []byte
		want api.Errno
	}{
		{nil, api.ErrShort},
		{[]byte{}, api.ErrShort},
		{[]byte{0}, api.ErrOp},
		{[]byte{6}, api.ErrOp},
		{[]byte{9}, api.ErrOp},
		{[]byte{129}, api.ErrOp},
		{[]byte{255, 3, 3}, api.ErrOp},
		{[]byte{3}, api.ErrShort},
		{[]byte{3, 0}, api.ErrCount},
		{[]byte{3, 2}, api.ErrCount},
		{[]byte{3, 65}, api.ErrCount},
		{[]byte{3, 131}, api.ErrCount},
		{[]byte{3, 255, 0}, api.ErrCount},
		{[]byte{4}, api.ErrShort},
		{[]byte{5}, api.ErrShort},
		{[]byte{4, 0}, api.ErrCount},
		{[]byte{5, 0, 1, 1}, api.ErrCount},
		{[]byte{4, 65}, api.ErrCount},
		{[]byte{5, 129, 3}, api.ErrCount},
		{[]byte{4, 1}, api.ErrShort},
		{[]byte{4, 2, 0}, api.ErrShort},
		{[]byte{4, 2, 1}, api.ErrShort},
		{[]byte{5, 2, 65}, api.ErrShort},
		{[]byte{4, 1, 1}, api.ErrRegion},
		{[]byte{4, 1, 2}, api.ErrRegion},
		{[]byte{4, 1, 65}, api.ErrRegion},
		{[]byte{4, 1, 127}, api.ErrRegion},
		{[]byte{4, 1, 129}, api.ErrRegion},
		{[]byte{4, 1, 130}, api.ErrRegion},
		{[]byte{4, 1, 193}, api.ErrRegion},
		{[]byte{4, 1, 255}, api.ErrRegion},
		{[]byte{4, 3, 0, 3, 2}, api.ErrRegion},
		{[]byte{4, 3, 2, 3, 0}, api.ErrRegion},
		{[]byte{5, 1, 1}, api.ErrRegion},
		{[]byte{5, 1, 1, 0, 0}, api.ErrRegion},
		{[]byte{5, 1, 0}, api.ErrShort},
		{[]byte{5, 1, 0, 0}, api.ErrShort},
		{[]byte{5, 1, 0, 255}, api.ErrShort},
		{[]byte{5, 1, 0, 0, 0}, api.ErrCount},
		{[]byte{5, 1, 0, 1, 16}, api.ErrCount},
		{[]byte{5, 1, 0, 0, 17, 1}, api.ErrCount},
		{[]byte{5, 1, 0, 255, 255}, api.ErrCount},
	} {
		if h, n, errno := header.Parse(c.b); !equal(h, api.Header{}) || n != 0 || errno != c.want {
			t.Errorf("Parse of %d = %v, %d and %v, want nothing, 0 and %v", c.b, h, n, errno, c.want)
		}
	}
}

// TestParseShortLists uses all lists of up to two bytes, and those of up to six that consist of bytes at the bounds.
func TestParseShortLists(t *testing.T) {
	checkParse(t, nil)
	for x := range 1 << 8 {
		checkParse(t, []byte{byte(x)})
	}
	for x := range 1 << 16 {
		checkParse(t, []byte{byte(x), byte(x >> 8)})
	}
	lists := [][]byte{nil}
	for range 6 {
		var longer [][]byte
		for _, b := range lists {
			for _, x := range []byte{0, 1, 2, 3, 4, 5, 16, 65, 131, 193} {
				longer = append(longer, append(slices.Clip(b), x))
			}
		}
		for _, b := range longer {
			checkParse(t, b)
		}
		lists = slices.DeleteFunc(longer, func(b []byte) bool { return b[0] < 3 || b[0] > 5 })
	}
}

// TestParseNumbersOfRegions uses each number of regions with each number of bytes after it.
func TestParseNumbersOfRegions(t *testing.T) {
	for _, op := range []byte{4, 5} {
		for _, x := range []byte{0, 3, 192, 2} {
			for number := range 256 {
				for after := range 70 {
					checkParse(t, append([]byte{op, byte(number)}, bytes.Repeat([]byte{x}, after)...))
				}
			}
		}
	}
}

// TestParseRegions uses each byte at each place of fences.
func TestParseRegions(t *testing.T) {
	for _, number := range []int{1, 2, 5, 63, 64} {
		for i := range number {
			for x := range 256 {
				b := append([]byte{4, byte(number)}, bytes.Repeat([]byte{0}, number)...)
				b[2+i] = byte(x)
				checkParse(t, b)
				b[0] = 5
				checkParse(t, b)
				checkParse(t, append(b, 1, 0))
				checkParse(t, append(b, 0, 0))
			}
		}
	}
}

func TestParsePoints(t *testing.T) {
	for x := range 1 << 16 {
		checkParse(t, []byte{5, 2, 0, 131, byte(x), byte(x >> 8)})
	}
}

// TestParsePartsOfHeaders cuts headers off at each place, also where the memory goes on.
func TestParsePartsOfHeaders(t *testing.T) {
	for _, h := range samples() {
		b := bytesOf(h)
		for n := range b {
			want := api.ErrShort
			if h, got, errno := header.Parse(b[:n]); !equal(h, api.Header{}) || got != 0 || errno != want {
				t.Errorf("Parse of %d, cut off after %d, = %v, %d and %v, want %v", b, n, h, got, errno, want)
			}
			checkParse(t, bytes.Clone(b[:n]))
		}
	}
}

// TestParseIgnoresWhatFollows appends other bytes to headers.
func TestParseIgnoresWhatFollows(t *testing.T) {
	for _, h := range samples() {
		b := bytesOf(h)
		for _, after := range [][]byte{{0}, {255}, {1, 2, 3}, b, bytes.Repeat([]byte{170}, 5000)} {
			got, n, errno := header.Parse(slices.Concat(b, after))
			if !equal(got, h) || n != len(b) || errno != api.OK {
				t.Errorf("Parse of %d with %d bytes after it = %v, %d and %v, want %v", b, len(after), got, n, errno, h)
			}
		}
	}
}

// P17.2

func TestFormatExamples(t *testing.T) {
	for _, c := range []struct {
		h    api.Header
		want []byte
	}{
		{api.Header{Op: api.OpOrient}, []byte{1}},
		{api.Header{Op: api.OpCircle}, []byte{2}},
		{api.Header{Op: api.OpCircle, Regions: make(regions, 0, 2)}, []byte{2}},
		{api.Header{Op: api.OpConvex, Vertices: 3}, []byte{3, 3}},
		{api.Header{Op: api.OpConvex, Vertices: 4}, []byte{3, 4}},
		{api.Header{Op: api.OpConvex, Vertices: 64, Regions: regions{}}, []byte{3, 64}},
		{api.Header{Op: api.OpFence, Regions: regions{{}}}, []byte{4, 1, 0}},
		{api.Header{Op: api.OpFence, Regions: regions{{Deny: true, Points: []api.Point{}}}}, []byte{4, 1, 128}},
		{api.Header{Op: api.OpFence, Regions: regions{{Vertices: 64}, {Deny: true, Vertices: 64}}}, []byte{4, 2, 64, 192}},
		{api.Header{Op: api.OpBatch, Regions: regions{{Deny: true}}, Points: 2}, []byte{5, 1, 128, 2, 0}},
		{api.Header{Op: api.OpBatch, Regions: regions{{Deny: true, Vertices: 3}, {}, {Vertices: 5}}, Points: 513}, []byte{5, 3, 131, 0, 5, 1, 2}},
		{api.Header{Op: api.OpBatch, Regions: regions{{}}, Points: 4096}, []byte{5, 1, 0, 0, 16}},
		{api.Header{Op: api.OpBatch, Regions: regions{{}}, Points: 255}, []byte{5, 1, 0, 255, 0}},
	} {
		if b, errno := header.Format(c.h); !bytes.Equal(b, c.want) || errno != api.OK {
			t.Errorf("Format of %v = %d and %v, want %d and OK", c.h, b, errno, c.want)
		}
	}
}

func TestFormatErrors(t *testing.T) {
	none, withPoints := regions{{Vertices: 2}}, regions{{Points: make([]api.Point, 3)}}
	for _, c := range []struct {
		h    api.Header
		want api.Errno
	}{
		{api.Header{}, api.ErrOp},
		{api.Header{Op: -1}, api.ErrOp},
		{api.Header{Op: 6}, api.ErrOp},
		{api.Header{Op: 257}, api.ErrOp},
		{api.Header{Op: 6, Vertices: 2, Regions: none, Points: 4097}, api.ErrOp},
		{api.Header{Op: 3}, api.ErrCount},
		{api.Header{Op: 3, Vertices: 2}, api.ErrCount},
		{api.Header{Op: 3, Vertices: 65}, api.ErrCount},
		{api.Header{Op: 3, Vertices: 256 + 3}, api.ErrCount},
		{api.Header{Op: 3, Vertices: 2, Regions: none, Points: 1}, api.ErrCount},
		{api.Header{Op: 4}, api.ErrCount},
		{api.Header{Op: 4, Regions: slices.Repeat(none, 65)}, api.ErrCount},
		{api.Header{Op: 4, Regions: make(regions, 256+1)}, api.ErrCount},
		{api.Header{Op: 5, Points: 1}, api.ErrCount},
		{api.Header{Op: 5, Regions: make(regions, 65), Points: 1}, api.ErrCount},
		{api.Header{Op: 4, Regions: none}, api.ErrRegion},
		{api.Header{Op: 4, Regions: regions{{}, {Vertices: -1}}}, api.ErrRegion},
		{api.Header{Op: 4, Regions: regions{{Vertices: 65}, {}}}, api.ErrRegion},
		{api.Header{Op: 4, Regions: regions{{Vertices: 128}}}, api.ErrRegion},
		{api.Header{Op: 4, Vertices: 3, Regions: append(withPoints, none...), Points: 1}, api.ErrRegion},
		{api.Header{Op: 5, Regions: none}, api.ErrRegion},
		{api.Header{Op: 5, Regions: none, Points: 4097}, api.ErrRegion},
		{api.Header{Op: 5, Regions: regions{{}}}, api.ErrCount},
		{api.Header{Op: 5, Regions: regions{{}}, Points: -1}, api.ErrCount},
		{api.Header{Op: 5, Regions: regions{{}}, Points: 4097}, api.ErrCount},
		{api.Header{Op: 5, Regions: regions{{}}, Points: 65536 + 1}, api.ErrCount},
		{api.Header{Op: 5, Vertices: 3, Regions: withPoints}, api.ErrCount},
		{api.Header{Op: 1, Vertices: 3}, api.ErrArg},
		{api.Header{Op: 1, Regions: none}, api.ErrArg},
		{api.Header{Op: 1, Points: -1}, api.ErrArg},
		{api.Header{Op: 2, Vertices: -1}, api.ErrArg},
		{api.Header{Op: 2, Regions: regions{{}}}, api.ErrArg},
		{api.Header{Op: 2, Points: 4097}, api.ErrArg},
		{api.Header{Op: 3, Vertices: 3, Regions: make(regions, 65)}, api.ErrArg},
		{api.Header{Op: 3, Vertices: 3, Points: 1}, api.ErrArg},
		{api.Header{Op: 4, Regions: regions{{}}, Vertices: 2}, api.ErrArg},
		{api.Header{Op: 4, Regions: regions{{}}, Points: 1}, api.ErrArg},
		{api.Header{Op: 4, Regions: withPoints}, api.ErrArg},
		{api.Header{Op: 4, Regions: append(make(regions, 63), withPoints...)}, api.ErrArg},
		{api.Header{Op: 5, Regions: regions{{}}, Points: 1, Vertices: 3}, api.ErrArg},
		{api.Header{Op: 5, Regions: append(withPoints, api.Region{}), Points: 1}, api.ErrArg},
	} {
		if b, errno := header.Format(c.h); len(b) != 0 || errno != c.want {
			t.Errorf("Format of %v = %d and %v, want nothing and %v", c.h, b, errno, c.want)
		}
		if payload, response := header.Payload(c.h), header.Response(c.h); payload != 0 || response != 0 {
			t.Errorf("Payload and Response of %v = %d and %d, want 0", c.h, payload, response)
		}
	}
}

// TestHeaders combines operations, Vertices, lists of regions and Points, with and without errors.
func TestHeaders(t *testing.T) {
	point := []api.Point{{X: 1, Y: 2}}
	lists := []regions{nil, {}, kinds(0), kinds(2), kinds(192), kinds(3, 65, 128), kinds(64, 0, 131), make(regions, 64), make(regions, 65), make(regions, 257),
		{{Points: point}}, {{Points: point}, {Vertices: 2}}, {{Vertices: 2}, {Points: point}}, {{Vertices: 2, Points: point}}, {{}, {Vertices: 3, Points: make([]api.Point, 3)}}, {{}, {Points: point[:0]}}, {{Vertices: -1}}, {{Vertices: 259}},
	}
	for _, op := range slices.Concat([]int{0, 1, 2, 3, 4, 5, 6, 7, 128, 257, 261}, strange) {
		for _, vertices := range []int{0, 1, 2, 3, 17, 64, 65, -3, 259, math.MaxInt, math.MinInt} {
			for _, l := range lists {
				for _, points := range []int{0, 1, 255, 256, 4096, 4097, -1, 65537, math.MaxInt, math.MinInt} {
					checkHeader(t, api.Header{Op: op, Vertices: vertices, Regions: l, Points: points})
				}
			}
		}
	}
}

// TestNumbers uses each number near the permitted ones in each field.
func TestNumbers(t *testing.T) {
	l := slices.Clone(strange)
	for n := -300; n <= 4500; n++ {
		l = append(l, n)
	}
	for _, n := range l {
		checkHeader(t, api.Header{Op: n})
		checkHeader(t, api.Header{Op: n, Regions: kinds(0), Points: 1})
		checkHeader(t, api.Header{Op: 3, Vertices: n})
		checkHeader(t, api.Header{Op: 4, Regions: regions{{Vertices: n}}})
		checkHeader(t, api.Header{Op: 5, Regions: regions{{}, {Deny: true, Vertices: n}, {}}, Points: 1})
		checkHeader(t, api.Header{Op: 5, Regions: kinds(131), Points: n})
		for op := 1; op <= 5; op++ {
			checkHeader(t, api.Header{Op: op, Vertices: n, Regions: kinds(4), Points: n})
		}
	}
}

// TestNumbersOfRegions uses each number of regions, also such that their lowest bits are permitted ones.
func TestNumbersOfRegions(t *testing.T) {
	for _, g := range kinds(0, 3, 192, 2) {
		for _, n := range []int{0, 1, 2, 3, 31, 32, 63, 64, 65, 66, 127, 128, 129, 192, 255, 256, 257, 320, 1<<16 + 1} {
			for op := 1; op <= 6; op++ {
				checkHeader(t, api.Header{Op: op, Regions: slices.Repeat(regions{g}, n)})
				checkHeader(t, api.Header{Op: op, Regions: slices.Repeat(regions{g}, n), Points: 2})
			}
		}
	}
}

// TestRegionsAtEachPlace has a region that is of no kind, or that has points, at each place of a fence.
func TestRegionsAtEachPlace(t *testing.T) {
	for _, n := range []int{1, 2, 7, 64} {
		for i := range n {
			for _, g := range (regions{{Vertices: 1}, {Vertices: 65}, {Points: make([]api.Point, 1)}, {Points: make([]api.Point, 3)}, {Vertices: 9, Points: make([]api.Point, 9)}, {Deny: true, Vertices: 64}}) {
				l := make(regions, n)
				l[i] = g
				checkHeader(t, api.Header{Op: 4, Regions: l})
				checkHeader(t, api.Header{Op: 5, Regions: l, Points: 4096})
				checkHeader(t, api.Header{Op: 5, Regions: l, Points: 4097})
			}
		}
	}
}

// P17.3

func TestLengthsExamples(t *testing.T) {
	for _, c := range []struct {
		h                 api.Header
		payload, response int
	}{
		{api.Header{Op: api.OpOrient}, 48, 2},
		{api.Header{Op: api.OpCircle}, 64, 2},
		{api.Header{Op: api.OpConvex, Vertices: 3}, 64, 2},
		{api.Header{Op: api.OpConvex, Vertices: 4}, 80, 2},
		{api.Header{Op: api.OpConvex, Vertices: 64}, 1040, 2},
		{api.Header{Op: api.OpFence, Regions: kinds(0)}, 64, 2},
		{api.Header{Op: api.OpFence, Regions: kinds(131)}, 64, 2},
		{api.Header{Op: api.OpFence, Regions: kinds(128, 4)}, 128, 2},
		{api.Header{Op: api.OpFence, Regions: slices.Repeat(kinds(64), 64)}, 65552, 2},
		{api.Header{Op: api.OpBatch, Regions: kinds(0), Points: 1}, 72, 13},
		{api.Header{Op: api.OpBatch, Regions: kinds(128), Points: 2}, 96, 22},
		{api.Header{Op: api.OpBatch, Regions: kinds(5, 0), Points: 10}, 368, 94},
		{api.Header{Op: api.OpBatch, Regions: slices.Repeat(kinds(192), 64), Points: 4096}, 163840, 36868},
		{api.Header{}, 0, 0},
		{api.Header{Op: api.OpConvex, Vertices: 65}, 0, 0},
		{api.Header{Op: api.OpFence}, 0, 0},
		{api.Header{Op: api.OpBatch, Regions: kinds(2), Points: 1}, 0, 0},
		{api.Header{Op: api.OpBatch, Regions: kinds(0), Points: 4097}, 0, 0},
		{api.Header{Op: api.OpOrient, Points: 1}, 0, 0},
	} {
		if payload, response := header.Payload(c.h), header.Response(c.h); payload != c.payload || response != c.response {
			t.Errorf("Payload and Response of %v = %d and %d, want %d and %d", c.h, payload, response, c.payload, c.response)
		}
	}
}

// P17.4

func TestClassifyExamples(t *testing.T) {
	for _, c := range []struct {
		start []byte
		rest  int
		want  api.Errno
	}{
		{nil, 0, api.ErrShort},
		{[]byte{9}, 0, api.ErrOp},
		{[]byte{9}, 48, api.ErrOp},
		{[]byte{3}, 0, api.ErrShort},
		{[]byte{3, 2}, 48, api.ErrCount},
		{[]byte{4, 0}, 16, api.ErrCount},
		{[]byte{4, 1, 2}, 48, api.ErrRegion},
		{[]byte{5, 1, 0, 0, 0}, 48, api.ErrCount},
		{[]byte{1}, 0, api.ErrLength},
		{[]byte{1}, 47, api.ErrLength},
		{[]byte{1}, 48, api.OK},
		{[]byte{1}, 49, api.ErrLength},
		{[]byte{2}, 48, api.ErrLength},
		{[]byte{2}, 64, api.OK},
		{[]byte{3, 4}, 64, api.ErrLength},
		{[]byte{3, 4}, 80, api.OK},
		{[]byte{4, 1, 0}, 48, api.ErrLength},
		{[]byte{4, 1, 0}, 64, api.OK},
		{[]byte{5, 1, 128, 2, 0}, 96, api.OK},
		{[]byte{5, 1, 128, 2, 0}, 95, api.ErrLength},
		{[]byte{5, 1, 128, 2, 0}, 97, api.ErrLength},
		{[]byte{5, 1, 128, 2, 0}, 0, api.ErrLength},
		{[]byte{5, 1, 128, 2, 0}, 22, api.ErrLength},
	} {
		if got := header.Classify(append(c.start, make([]byte, c.rest)...)); got != c.want {
			t.Errorf("Classify of %d and %d further bytes = %v, want %v", c.start, c.rest, got, c.want)
		}
	}
}

// TestClassifyLengths uses requests of each length near the right one, and some others, with different payloads.
func TestClassifyLengths(t *testing.T) {
	for seed, h := range samples() {
		random, b := source(uint64(seed)), bytesOf(h)
		payload, _ := sizes(h)
		whole := slices.Clone(b)
		for range payload + 300 {
			whole = append(whole, byte(random.Uint32()))
		}
		right := len(b) + payload
		for _, n := range []int{len(b), len(b) + 1, payload, right - 256, right - 24, right - 16, right - 9, right - 2, right - 1, right, right + 1, right + 2, right + 9, right + 16, right + 24, right + 256, len(whole)} {
			n = max(n, len(b))
			want := api.ErrLength
			if n == right {
				want = api.OK
			}
			if got := header.Classify(whole[:n]); got != want {
				t.Errorf("Classify of %d bytes with the header %v = %v, want %v", n, h, got, want)
			}
		}
	}
}

func TestClassifyEachLength(t *testing.T) {
	for _, b := range [][]byte{{1}, {2}, {3, 3}, {3, 64}, {4, 2, 0, 131}, {5, 1, 3, 2, 0}} {
		h, n, _ := parse(b)
		payload, _ := sizes(h)
		for rest := range 2 * payload {
			want := api.ErrLength
			if rest == payload {
				want = api.OK
			}
			if got := header.Classify(append(slices.Clip(b[:n]), make([]byte, rest)...)); got != want {
				t.Errorf("Classify of %d and %d further bytes = %v, want %v", b, rest, got, want)
			}
		}
	}
}

// TestClassifyReturnsTheErrorOfParse uses bytes that are no headers, alone and with others after them.
func TestClassifyReturnsTheErrorOfParse(t *testing.T) {
	lists := [][]byte{nil, {4}, {5}, {4, 64}, {5, 1, 0}, {5, 2, 0, 0, 1}}
	for x := range 1 << 16 {
		lists = append(lists, []byte{byte(x), byte(x >> 8)}, []byte{4, 1, byte(x)}, []byte{5, 1, byte(x), byte(x >> 8), 0})
	}
	for _, b := range lists {
		for _, rest := range []int{0, 1, 63} {
			all := append(slices.Clip(b), make([]byte, rest)...)
			h, n, want := parse(all)
			if payload, _ := sizes(h); want == api.OK && n+payload != len(all) {
				want = api.ErrLength
			}
			if got := header.Classify(all); got != want {
				t.Errorf("Classify of %d = %v, want %v", all, got, want)
			}
		}
	}
}

// P17.5

// TestInverse uses each Vertices, each region and each Points of headers without errors, and ordinary headers.
func TestInverse(t *testing.T) {
	l := samples()
	for n := 3; n <= 64; n++ {
		l = append(l, api.Header{Op: 3, Vertices: n})
	}
	for n := 1; n <= 4096; n++ {
		l = append(l, api.Header{Op: 5, Regions: kinds(0, 132), Points: n})
	}
	for _, x := range kindBytes() {
		for n := 1; n <= 64; n++ {
			l = append(l, api.Header{Op: 4, Regions: slices.Repeat(kinds(x), n)})
		}
	}
	for seed := range uint64(5000) {
		l = append(l, someHeader(^seed))
	}
	for _, h := range l {
		b, errno := header.Format(h)
		back, n, again := header.Parse(b)
		if errno != api.OK || !equal(back, h) || n != len(b) || again != api.OK {
			t.Errorf("Format of %v = %d and %v, and Parse of it = %v, %d and %v", h, b, errno, back, n, again)
		}
		checkHeader(t, h)
		checkParse(t, b)
	}
}

// TestInverseOfOrdinaryBytes uses lists of bytes most of which begin with a header.
func TestInverseOfOrdinaryBytes(t *testing.T) {
	all := kindBytes()
	for seed := range uint64(20000) {
		random := source(seed)
		b := []byte{byte(random.IntN(7)), byte(random.IntN(68))}
		for range random.IntN(80) {
			x := all[random.IntN(len(all))]
			if random.IntN(200) == 0 {
				x = byte(random.Uint32())
			}
			b = append(b, x)
		}
		if random.IntN(2) == 0 && len(b) > 3+int(b[1]) {
			b[3+int(b[1])] &= 15
		}
		checkParse(t, b)
	}
}

// Rules

// TestResultsAreSeparate changes results, which must not change those of later calls.
func TestResultsAreSeparate(t *testing.T) {
	b := []byte{5, 2, 0, 131, 3, 1}
	want := api.Header{Op: 5, Regions: kinds(0, 131), Points: 259}
	h, _, _ := header.Parse(slices.Clone(b))
	h.Regions[0] = api.Region{Deny: true, Vertices: 7}
	_ = append(h.Regions, api.Region{Vertices: 8})
	if h, n, errno := header.Parse(b); !equal(h, want) || n != 6 || errno != api.OK {
		t.Errorf("Parse of %d = %v, %d and %v after a change of an earlier result", b, h, n, errno)
	}
	f, _ := header.Format(want)
	clear(f)
	if f, errno := header.Format(cloned(want)); !bytes.Equal(f, b) || errno != api.OK {
		t.Errorf("Format of %v = %d and %v after a change of an earlier result", want, f, errno)
	}
}

// TestPartsOfLists uses bytes and regions that are parts of longer lists, whose other elements would change the results.
func TestPartsOfLists(t *testing.T) {
	whole := []byte{9, 4, 2, 0, 131, 1, 0, 9}
	for low := range whole {
		for high := low; high <= len(whole); high++ {
			checkParse(t, whole[low:high:high])
			h, n, errno := header.Parse(whole[low:high])
			wantH, wantN, wantErrno := parse(whole[low:high])
			if !equal(h, wantH) || n != wantN || errno != wantErrno {
				t.Errorf("Parse of a part of a list = %v, %d and %v, want %v, %d and %v", h, n, errno, wantH, wantN, wantErrno)
			}
		}
	}
	l := regions{{Vertices: 2}, {}, {Vertices: 3, Points: make([]api.Point, 3)[:0]}, {Vertices: 65}}
	for low := range l {
		for high := low; high <= len(l); high++ {
			checkHeader(t, api.Header{Op: 4, Regions: l[low:high]})
			checkHeader(t, api.Header{Op: 5, Regions: l[low:high], Points: 1})
		}
	}
}

func TestConcurrentCalls(t *testing.T) {
	l := samples()
	var group sync.WaitGroup
	for range 8 {
		group.Go(func() {
			for _, h := range l {
				b, errno := header.Format(h)
				back, n, again := header.Parse(b)
				payload, response := sizes(h)
				if errno != api.OK || again != api.OK || n != len(b) || !equal(back, h) || header.Payload(h) != payload || header.Response(h) != response {
					t.Errorf("a concurrent call for %v returns something else", h)
				}
			}
		})
	}
	group.Wait()
}
