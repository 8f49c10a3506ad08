package plan_test

import (
	"bytes"
	"encoding/hex"
	"errors"
	"math"
	"reflect"
	"slices"
	"strings"
	"testing"

	"purlin/api"
	"purlin/blob"
	"purlin/plan"
)

// example is the chapter's plan, and exampleBytes is how the chapter encodes it.
func example() api.Plan {
	return api.Plan{Frame: 10, Cores: [][]api.Window{{{Start: 0, Len: 10, Part: 0, Gang: 0}}}, Parts: []api.Part{{}}}
}

const exampleBytes = "50 55 52 31 00 0a 01 01 00 00 00 01 00 00 00 0a 00 00 00 00 00 00 00 00"

// full is a plan with several elements in each list, no two of whose numbers are alike but for the counts, so that it can be told which of them stands where.
func full() api.Plan {
	return api.Plan{
		Frame: 0x1011,
		Cores: [][]api.Window{
			{{Start: 0x1213, Len: 0x1415, Part: 0x16, Gang: 0x17}, {Start: 0x1819, Len: 0x1a1b, Part: 0x1c, Gang: 0x1d}},
			nil,
			{{Start: 0x1e1f, Len: 0x2021, Part: 0x22, Gang: 0x23}},
		},
		Parts: []api.Part{
			{Sems: []api.Sem{{Init: 0x24, Max: 0x25}, {Init: 0x26, Max: 0x27}}, Events: 0x28, Procs: []uint8{0x29, 0x2a, 0x2b}, Acts: api.Actions{0x2c, 0x2d, 0x2e}},
			{Events: 0x2f, Procs: []uint8{0x30}, Acts: api.Actions{0x31, 0x32, 0x33}},
		},
		Channels: []api.Channel{
			{Kind: 0x34, From: 0x35, To: 0x36, Size: 0x37, Depth: 0x38, Age: 0x393a},
			{Kind: 0x3b, From: 0x3c, To: 0x3d, Size: 0x3e, Depth: 0x3f, Age: 0x4041},
			{Kind: 0x42, From: 0x43, To: 0x44, Size: 0x45, Depth: 0x46, Age: 0x4748},
			{Kind: 0x49, From: 0x4a, To: 0x4b, Size: 0x4c, Depth: 0x4d, Age: 0x4e4f},
		},
		Pairs: []api.Pair{{A: 0x50, B: 0x51}, {A: 0x52, B: 0x53}, {A: 0x54, B: 0x55}, {A: 0x56, B: 0x57}, {A: 0x58, B: 0x59}},
	}
}

// fullNumbers is full's encoding: a number a word.
const fullNumbers = "50555231 1011 03 02 04 05 " +
	"0002 1213 1415 16 17 1819 1a1b 1c 1d 0000 0001 1e1f 2021 22 23 " +
	"02 24 25 26 27 28 03 29 2a 2b 2c 2d 2e 00 2f 01 30 31 32 33 " +
	"34 35 36 37 38 393a 3b 3c 3d 3e 3f 4041 42 43 44 45 46 4748 49 4a 4b 4c 4d 4e4f " +
	"50 51 52 53 54 55 56 57 58 59"

// fromHex is the bytes that a hexadecimal text tells, spaces left out.
func fromHex(s string) []byte {
	b, err := hex.DecodeString(strings.ReplaceAll(s, " ", ""))
	if err != nil {
		panic(err)
	}
	return b
}

// plain is a plan with nil for each empty list, so that reflect.DeepEqual compares it. It shares memory with the plan.
func plain(p api.Plan) api.Plan {
	p.Cores = slices.Clone(p.Cores)
	for i, windows := range p.Cores {
		p.Cores[i] = orNil(windows)
	}
	p.Parts = slices.Clone(p.Parts)
	for i := range p.Parts {
		p.Parts[i].Sems = orNil(p.Parts[i].Sems)
		p.Parts[i].Procs = orNil(p.Parts[i].Procs)
	}
	p.Cores, p.Parts, p.Channels, p.Pairs = orNil(p.Cores), orNil(p.Parts), orNil(p.Channels), orNil(p.Pairs)
	return p
}

// orNil is a list, nil if it is empty.
func orNil[E any](es []E) []E {
	if len(es) == 0 {
		return nil
	}
	return es
}

// equal is whether two plans are equal, told without the package that is tested.
func equal(p, q api.Plan) bool { return reflect.DeepEqual(plain(p), plain(q)) }

// isFailure checks that an error is the failure with a number and an offset, and nothing that wraps one.
func isFailure(t *testing.T, err error, e api.Errno, at int) {
	t.Helper()
	f, ok := err.(*api.Failure)
	if !ok || f == nil || f.Err != e || f.At != at || !errors.Is(err, e) {
		t.Errorf("the failure is %v, not %d at %d", err, e, at)
	}
}

// decodes checks that bytes are decoded as a plan.
func decodes(t *testing.T, b []byte, want api.Plan) {
	t.Helper()
	before := bytes.Clone(b)
	p, err := plan.Decode(b)
	if err != nil || !equal(p, want) {
		t.Errorf("Decode(%x) = %v, %v, not %v", b, p, err, want)
	}
	if !bytes.Equal(b, before) {
		t.Errorf("Decode(%x) has changed its argument to %x", before, b)
	}
}

// doesNotDecode checks that bytes are refused, with a failure and an empty plan.
func doesNotDecode(t *testing.T, b []byte, e api.Errno, at int) {
	t.Helper()
	p, err := plan.Decode(b)
	isFailure(t, err, e, at)
	if !reflect.DeepEqual(plain(p), api.Plan{}) {
		t.Errorf("Decode(%x) = %v beside a failure", b, p)
	}
	if t.Failed() {
		t.Logf("of Decode(%x)", b)
	}
}

// encodes checks that a plan is encoded as bytes.
func encodes(t *testing.T, p api.Plan, want []byte) {
	t.Helper()
	if b, err := plan.Encode(p); err != nil || !bytes.Equal(b, want) {
		t.Errorf("Encode = %x, %v, not %x", b, err, want)
	}
}

// doesNotEncode checks that a plan is refused: one of its lists is too long.
func doesNotEncode(t *testing.T, name string, p api.Plan, at int) {
	t.Helper()
	b, err := plan.Encode(p)
	isFailure(t, err, api.ErrPlanMany, at)
	if len(b) != 0 {
		t.Errorf("Encode = %d bytes beside a failure", len(b))
	}
	if t.Failed() {
		t.Log("of", name)
	}
}

// starts are the offsets at which an encoding's numbers begin, and where it ends; the first four characters count as one number.
func starts(p api.Plan) []int {
	widths := []int{4, 2, 1, 1, 1, 1}
	for _, windows := range p.Cores {
		widths = append(widths, 2)
		for range windows {
			widths = append(widths, 2, 2, 1, 1)
		}
	}
	for _, part := range p.Parts {
		ones := 1 + 2*len(part.Sems) + 2 + len(part.Procs) + 3
		widths = append(widths, slices.Repeat([]int{1}, ones)...)
	}
	for range p.Channels {
		widths = append(widths, 1, 1, 1, 1, 1, 2)
	}
	widths = append(widths, slices.Repeat([]int{1}, 2*len(p.Pairs))...)
	all := []int{0}
	for i, w := range widths {
		all = append(all, all[i]+w)
	}
	return all
}

// source is a row of numbers that look drawn, and are the same each time.
type source uint32

// under is the next number, below n.
func (s *source) under(n int) int {
	*s = *s*1664525 + 1013904223
	return int(*s>>8) % n
}

// some is up to n elements.
func some[E any](s *source, n int, next func() E) []E {
	es := []E{}
	for range s.under(n + 1) {
		es = append(es, next())
	}
	return es
}

// small is the next byte, often an extreme one.
func (s *source) small() uint8 { return []uint8{0, 1, 255, uint8(s.under(256))}[s.under(4)] }

// wide is the next number of two bytes, often an extreme one.
func (s *source) wide() uint16 { return []uint16{0, 255, 65535, uint16(s.under(65536))}[s.under(4)] }

// plan is the next plan.
func (s *source) plan() api.Plan {
	return api.Plan{
		Frame: s.wide(),
		Cores: some(s, 4, func() []api.Window {
			return some(s, 3, func() api.Window {
				return api.Window{Start: s.wide(), Len: s.wide(), Part: s.small(), Gang: s.small()}
			})
		}),
		Parts: some(s, 3, func() api.Part {
			return api.Part{
				Sems:   some(s, 3, func() api.Sem { return api.Sem{Init: s.small(), Max: s.small()} }),
				Events: s.small(),
				Procs:  some(s, 3, s.small),
				Acts:   api.Actions{s.small(), s.small(), s.small()},
			}
		}),
		Channels: some(s, 3, func() api.Channel {
			return api.Channel{Kind: s.small(), From: s.small(), To: s.small(), Size: s.small(), Depth: s.small(), Age: s.wide()}
		}),
		Pairs: some(s, 3, func() api.Pair { return api.Pair{A: s.small(), B: s.small()} }),
	}
}

// P3.1

func TestDecodeExample(t *testing.T) {
	b := fromHex(exampleBytes)
	decodes(t, b, example())
	doesNotDecode(t, b[:12], api.ErrBlobShort, 12)
	for extra := range 256 {
		doesNotDecode(t, append(slices.Clip(b), byte(extra)), api.ErrBlobMore, 24)
	}
}

func TestDecodeEveryField(t *testing.T) { decodes(t, fromHex(fullNumbers), full()) }

// Of an empty plan, only the frame can differ.
func TestDecodeEveryFrame(t *testing.T) {
	for frame := range 1 << 16 {
		decodes(t, append([]byte("PUR1"), byte(frame>>8), byte(frame), 0, 0, 0, 0), api.Plan{Frame: uint16(frame)})
	}
}

// Whether a plan may be is none of this layer's business: its numbers may be any.
func TestDecodeWhatIsNotValid(t *testing.T) {
	decodes(t, fromHex("50555231 0000 01 01 01 01 0001 ffff ffff ff ff 01 ff 00 ff 01 ff ff ff ff ff ff ff ff ff ffff ff ff"), api.Plan{
		Cores:    [][]api.Window{{{Start: 65535, Len: 65535, Part: 255, Gang: 255}}},
		Parts:    []api.Part{{Sems: []api.Sem{{Init: 255, Max: 0}}, Events: 255, Procs: []uint8{255}, Acts: api.Actions{255, 255, 255}}},
		Channels: []api.Channel{{Kind: 255, From: 255, To: 255, Size: 255, Depth: 255, Age: 65535}},
		Pairs:    []api.Pair{{A: 255, B: 255}},
	})
}

func TestDecodeBytesThatAreCutOff(t *testing.T) {
	s := source(1)
	plans := []api.Plan{{}, example(), full()}
	for range 200 {
		plans = append(plans, s.plan())
	}
	for _, p := range plans {
		b, err := plan.Encode(p)
		if err != nil {
			t.Fatal(err)
		}
		places := starts(p)
		if end := places[len(places)-1]; end != len(b) {
			t.Fatalf("the encoding is %d bytes, not %d", len(b), end)
		}
		for i, place := range places[1:] {
			for n := places[i]; n < place; n++ {
				doesNotDecode(t, b[:n], api.ErrBlobShort, places[i])
			}
		}
		decodes(t, b, p)
	}
}

// The offsets at which full is cut off, told by its encoding's words.
func TestDecodeFullThatIsCutOff(t *testing.T) {
	all, at := fromHex(fullNumbers), 0
	for _, number := range strings.Fields(fullNumbers) {
		for n := range len(number) / 2 {
			doesNotDecode(t, all[:at+n], api.ErrBlobShort, at)
		}
		at += len(number) / 2
	}
	doesNotDecode(t, append(slices.Clip(all), 0), api.ErrBlobMore, at)
}

func TestDecodeBytesBehindTheEnd(t *testing.T) {
	for _, b := range [][]byte{fromHex("50555231 0000 00 00 00 00"), fromHex(exampleBytes), fromHex(fullNumbers)} {
		for _, more := range []string{"\x00", "\xff", "P", "PUR1", "\x00\x00\x00", string(b)} {
			doesNotDecode(t, slices.Concat(b, []byte(more)), api.ErrBlobMore, len(b))
		}
	}
}

func TestDecodeFewerThanFourBytes(t *testing.T) {
	doesNotDecode(t, nil, api.ErrBlobShort, 0)
	doesNotDecode(t, []byte{}, api.ErrBlobShort, 0)
	for _, s := range []string{"P", "PU", "PUR", "p", "XY", "XYZ", "UR1", "\x00", "\x00\x00\x00", "\xff\xff\xff"} {
		doesNotDecode(t, []byte(s), api.ErrBlobShort, 0)
	}
	doesNotDecode(t, []byte("PUR1"), api.ErrBlobShort, 4)
	doesNotDecode(t, []byte("PUR1\x01"), api.ErrBlobShort, 4)
}

func TestDecodeAnotherBeginning(t *testing.T) {
	for at := range 4 {
		for x := range 256 {
			b := fromHex(exampleBytes)
			if b[at] == byte(x) {
				continue
			}
			b[at] = byte(x)
			doesNotDecode(t, b, api.ErrPlanMagic, 0)
		}
	}
	for _, s := range []string{"PUR2", "pur1", "PUR\x00", "1RUP", "PUR\x01", "\x00\x00\x00\x00", " PUR1", "\x00PUR1"} {
		doesNotDecode(t, []byte(s), api.ErrPlanMagic, 0)
	}
}

// Whatever else is wrong with the bytes, their beginning is read first, and nothing is read any more behind what is incomplete.
func TestDecodeFirstOfSeveralFailures(t *testing.T) {
	other := fromHex(fullNumbers)
	other[3] = '2'
	for n := 4; n <= len(other); n++ {
		doesNotDecode(t, other[:n], api.ErrPlanMagic, 0)
	}
	for n := range 4 {
		doesNotDecode(t, other[:n], api.ErrBlobShort, 0)
	}
	doesNotDecode(t, append(other, 0), api.ErrPlanMagic, 0)
	// One core whose windows are short, and whose last byte would be enough for a number of one byte.
	doesNotDecode(t, fromHex("50555231 000a 01 01 01 01 01"), api.ErrBlobShort, 10)
	doesNotDecode(t, fromHex("50555231 000a 01 01 01 01 0001 00"), api.ErrBlobShort, 12)
	doesNotDecode(t, fromHex("50555231 000a 02 01 01 01 0001 0000 01"), api.ErrBlobShort, 14)
}

func TestDecodeCountsWithoutElements(t *testing.T) {
	doesNotDecode(t, fromHex("50555231 ffff ff ff ff ff"), api.ErrBlobShort, 10)
	doesNotDecode(t, fromHex("50555231 ffff ff ff ff ff ffff"), api.ErrBlobShort, 12)
	doesNotDecode(t, fromHex("50555231 ffff 00 ff ff ff"), api.ErrBlobShort, 10)
	doesNotDecode(t, fromHex("50555231 ffff 00 ff ff ff ff"), api.ErrBlobShort, 11)
	doesNotDecode(t, fromHex("50555231 ffff 00 ff ff ff 00 00 ff"), api.ErrBlobShort, 13)
	doesNotDecode(t, fromHex("50555231 ffff 00 00 ff ff"), api.ErrBlobShort, 10)
	doesNotDecode(t, fromHex("50555231 ffff 00 00 00 ff"), api.ErrBlobShort, 10)
}

func TestDecodeLongestLists(t *testing.T) {
	for name, p := range longest() {
		b, err := plan.Encode(p)
		if err != nil {
			t.Fatal(name, err)
		}
		if q, err := plan.Decode(b); err != nil || !equal(p, q) {
			t.Errorf("%s: a plan is decoded as another one, or with %v", name, err)
		}
		places := starts(p)
		doesNotDecode(t, b[:len(b)-1], api.ErrBlobShort, places[len(places)-2])
		doesNotDecode(t, append(b, 0), api.ErrBlobMore, len(b))
	}
}

// P3.2

// longest are plans with lists of as many elements as their counts can say, the last of which isn't empty.
func longest() map[string]api.Plan {
	windows := make([]api.Window, 65535)
	for i := range windows {
		windows[i] = api.Window{Start: uint16(i), Len: uint16(65535 - i), Part: uint8(i), Gang: uint8(i >> 8)}
	}
	sems, procs, pairs := make([]api.Sem, 255), make([]uint8, 255), make([]api.Pair, 255)
	for i := range 255 {
		sems[i], procs[i], pairs[i] = api.Sem{Init: uint8(i), Max: uint8(255 - i)}, uint8(i+1), api.Pair{A: uint8(i + 1), B: uint8(254 - i)}
	}
	cores, parts, channels := make([][]api.Window, 255), make([]api.Part, 255), make([]api.Channel, 255)
	cores[254] = windows[1:2]
	parts[254] = api.Part{Events: 7}
	channels[254] = api.Channel{Kind: 1, Age: 2}
	return map[string]api.Plan{
		"cores":      {Cores: cores},
		"partitions": {Parts: parts},
		"channels":   {Channels: channels},
		"pairs":      {Pairs: pairs},
		"windows":    {Cores: [][]api.Window{windows}},
		"semaphores": {Parts: []api.Part{{Sems: sems}}},
		"processes":  {Parts: []api.Part{{Procs: procs}}},
		"all":        {Frame: 65535, Cores: append(slices.Clip(cores[:254]), windows), Parts: append(slices.Clip(parts[:254]), api.Part{Sems: sems, Events: 255, Procs: procs}), Channels: channels, Pairs: pairs},
	}
}

func TestEncodeExample(t *testing.T) { encodes(t, example(), fromHex(exampleBytes)) }

func TestEncodeEveryField(t *testing.T) { encodes(t, full(), fromHex(fullNumbers)) }

func TestEncodeEveryFrame(t *testing.T) {
	for frame := range 1 << 16 {
		encodes(t, api.Plan{Frame: uint16(frame)}, append([]byte("PUR1"), byte(frame>>8), byte(frame), 0, 0, 0, 0))
	}
}

func TestEncodeNilAndEmptyLists(t *testing.T) {
	none := fromHex("50555231 0000 00 00 00 00")
	encodes(t, api.Plan{}, none)
	encodes(t, api.Plan{Cores: [][]api.Window{}, Parts: []api.Part{}, Channels: []api.Channel{}, Pairs: []api.Pair{}}, none)
	inner := fromHex("50555231 0000 01 01 00 00 0000 00 00 00 00 00 00")
	encodes(t, api.Plan{Cores: [][]api.Window{nil}, Parts: []api.Part{{}}}, inner)
	encodes(t, api.Plan{Cores: [][]api.Window{{}}, Parts: []api.Part{{Sems: []api.Sem{}, Procs: []uint8{}}}}, inner)
}

func TestEncodeLongestLists(t *testing.T) {
	counts := map[string]string{
		"cores":      "50555231 0000 ff 00 00 00",
		"partitions": "50555231 0000 00 ff 00 00",
		"channels":   "50555231 0000 00 00 ff 00",
		"pairs":      "50555231 0000 00 00 00 ff",
		"windows":    "50555231 0000 01 00 00 00 ffff",
		"semaphores": "50555231 0000 00 01 00 00 ff",
		"processes":  "50555231 0000 00 01 00 00 00 00 ff",
		"all":        "50555231 ffff ff ff ff ff",
	}
	for name, p := range longest() {
		b, err := plan.Encode(p)
		places := starts(p)
		if err != nil || !bytes.HasPrefix(b, fromHex(counts[name])) || len(b) != places[len(places)-1] {
			t.Errorf("%s: Encode gives %d bytes and %v", name, len(b), err)
		}
	}
}

func TestEncodeListsThatAreTooLong(t *testing.T) {
	for _, n := range []int{256, 257, 511, 512, 1000, 65535, 65536} {
		doesNotEncode(t, "cores", api.Plan{Cores: make([][]api.Window, n)}, 0)
		doesNotEncode(t, "partitions", api.Plan{Parts: make([]api.Part, n)}, 1)
		doesNotEncode(t, "channels", api.Plan{Channels: make([]api.Channel, n)}, 2)
		doesNotEncode(t, "pairs", api.Plan{Pairs: make([]api.Pair, n)}, 3)
		doesNotEncode(t, "semaphores", api.Plan{Parts: []api.Part{{Sems: make([]api.Sem, n)}}}, 5)
		doesNotEncode(t, "processes", api.Plan{Parts: []api.Part{{Procs: make([]uint8, n)}}}, 6)
	}
	for _, n := range []int{65536, 65537, 131071, 131072} {
		doesNotEncode(t, "windows", api.Plan{Cores: [][]api.Window{make([]api.Window, n)}}, 4)
	}
}

// Each core and each partition is asked, not the first one alone.
func TestEncodeLaterListsThatAreTooLong(t *testing.T) {
	for i := range 255 {
		cores := make([][]api.Window, 255)
		cores[i] = make([]api.Window, 65536)
		doesNotEncode(t, "windows", api.Plan{Cores: cores}, 4)
		sems, procs := make([]api.Part, 255), make([]api.Part, 255)
		sems[i].Sems = make([]api.Sem, 256)
		doesNotEncode(t, "semaphores", api.Plan{Parts: sems}, 5)
		procs[i].Procs = make([]uint8, 256)
		doesNotEncode(t, "processes", api.Plan{Parts: procs}, 6)
	}
}

// Any of the seven lists may be too long at once: the first one in the order of the chapter is told.
func TestEncodeSeveralListsThatAreTooLong(t *testing.T) {
	for bits := 1; bits < 1<<7; bits++ {
		long := func(i int) bool { return bits>>i&1 == 1 }
		p := api.Plan{Cores: make([][]api.Window, 2), Parts: make([]api.Part, 3)}
		if long(0) {
			p.Cores = make([][]api.Window, 256)
		}
		if long(1) {
			p.Parts = make([]api.Part, 256)
		}
		if long(2) {
			p.Channels = make([]api.Channel, 256)
		}
		if long(3) {
			p.Pairs = make([]api.Pair, 256)
		}
		if long(4) {
			p.Cores[1] = make([]api.Window, 65536)
		}
		if long(5) {
			p.Parts[1].Sems = make([]api.Sem, 256)
		}
		if long(6) {
			p.Parts[1].Procs = make([]uint8, 256)
		}
		want := 0
		for !long(want) {
			want++
		}
		doesNotEncode(t, "several lists", p, want)
	}
}

// Among partitions, the order is that of the encoding: a partition's processes come ahead of the next one's semaphores.
func TestEncodeFirstPartitionThatIsTooLong(t *testing.T) {
	sems, procs := api.Part{Sems: make([]api.Sem, 256)}, api.Part{Procs: make([]uint8, 256)}
	both := api.Part{Sems: sems.Sems, Procs: procs.Procs}
	doesNotEncode(t, "processes ahead of semaphores", api.Plan{Parts: []api.Part{procs, sems}}, 6)
	doesNotEncode(t, "processes ahead of both", api.Plan{Parts: []api.Part{{}, procs, both}}, 6)
	doesNotEncode(t, "semaphores ahead of processes", api.Plan{Parts: []api.Part{sems, procs}}, 5)
	doesNotEncode(t, "both", api.Plan{Parts: []api.Part{both}}, 5)
	doesNotEncode(t, "both ahead of processes", api.Plan{Parts: []api.Part{{}, both, procs}}, 5)
	doesNotEncode(t, "windows ahead of all", api.Plan{Cores: [][]api.Window{nil, make([]api.Window, 65536)}, Parts: []api.Part{both}}, 4)
}

// P3.3

// changes are what makes a plan another one: each changes one field of full alone.
func changes() map[string]func(p *api.Plan) {
	return map[string]func(p *api.Plan){
		"Frame":           func(p *api.Plan) { p.Frame++ },
		"Cores fewer":     func(p *api.Plan) { p.Cores = p.Cores[:2] },
		"Cores more":      func(p *api.Plan) { p.Cores = append(p.Cores, nil) },
		"Cores none":      func(p *api.Plan) { p.Cores = nil },
		"Cores swapped":   func(p *api.Plan) { p.Cores[0], p.Cores[2] = p.Cores[2], p.Cores[0] },
		"Cores empty":     func(p *api.Plan) { p.Cores[2] = nil },
		"Windows fewer":   func(p *api.Plan) { p.Cores[0] = p.Cores[0][:1] },
		"Windows more":    func(p *api.Plan) { p.Cores[1] = make([]api.Window, 1) },
		"Windows swapped": func(p *api.Plan) { slices.Reverse(p.Cores[0]) },
		"Start":           func(p *api.Plan) { p.Cores[0][1].Start++ },
		"Len":             func(p *api.Plan) { p.Cores[0][0].Len++ },
		"Window's Part":   func(p *api.Plan) { p.Cores[2][0].Part++ },
		"Gang":            func(p *api.Plan) { p.Cores[2][0].Gang = 0 },
		"Parts fewer":     func(p *api.Plan) { p.Parts = p.Parts[:1] },
		"Parts more":      func(p *api.Plan) { p.Parts = append(p.Parts, api.Part{}) },
		"Parts none":      func(p *api.Plan) { p.Parts = nil },
		"Parts swapped":   func(p *api.Plan) { slices.Reverse(p.Parts) },
		"Sems fewer":      func(p *api.Plan) { p.Parts[0].Sems = p.Parts[0].Sems[:1] },
		"Sems more":       func(p *api.Plan) { p.Parts[1].Sems = make([]api.Sem, 1) },
		"Sems swapped":    func(p *api.Plan) { slices.Reverse(p.Parts[0].Sems) },
		"Init":            func(p *api.Plan) { p.Parts[0].Sems[0].Init++ },
		"Max":             func(p *api.Plan) { p.Parts[0].Sems[1].Max++ },
		"Events":          func(p *api.Plan) { p.Parts[1].Events++ },
		"Procs fewer":     func(p *api.Plan) { p.Parts[0].Procs = p.Parts[0].Procs[:2] },
		"Procs more":      func(p *api.Plan) { p.Parts[0].Procs = append(p.Parts[0].Procs, 0) },
		"Procs none":      func(p *api.Plan) { p.Parts[1].Procs = nil },
		"Procs":           func(p *api.Plan) { p.Parts[0].Procs[2]++ },
		"Acts 0":          func(p *api.Plan) { p.Parts[1].Acts[0]++ },
		"Acts 1":          func(p *api.Plan) { p.Parts[1].Acts[1]++ },
		"Acts 2":          func(p *api.Plan) { p.Parts[0].Acts[2]++ },
		"Channels fewer":  func(p *api.Plan) { p.Channels = p.Channels[1:] },
		"Channels more":   func(p *api.Plan) { p.Channels = append(p.Channels, api.Channel{}) },
		"Channels none":   func(p *api.Plan) { p.Channels = nil },
		"Kind":            func(p *api.Plan) { p.Channels[0].Kind++ },
		"From":            func(p *api.Plan) { p.Channels[1].From++ },
		"To":              func(p *api.Plan) { p.Channels[2].To++ },
		"Size":            func(p *api.Plan) { p.Channels[3].Size++ },
		"Depth":           func(p *api.Plan) { p.Channels[0].Depth++ },
		"Age":             func(p *api.Plan) { p.Channels[1].Age += 256 },
		"Pairs fewer":     func(p *api.Plan) { p.Pairs = p.Pairs[:4] },
		"Pairs more":      func(p *api.Plan) { p.Pairs = append(p.Pairs, api.Pair{}) },
		"Pairs none":      func(p *api.Plan) { p.Pairs = nil },
		"A":               func(p *api.Plan) { p.Pairs[4].A++ },
		"B":               func(p *api.Plan) { p.Pairs[0].B++ },
		"A and B swapped": func(p *api.Plan) { p.Pairs[2].A, p.Pairs[2].B = p.Pairs[2].B, p.Pairs[2].A },
	}
}

// areSame checks whether two plans are said to be the same, both ways round.
func areSame(t *testing.T, name string, p, q api.Plan, want bool) {
	t.Helper()
	if plan.Same(p, q) != want || plan.Same(q, p) != want {
		t.Errorf("%s: Same isn't %t", name, want)
	}
}

func TestSameOfEqualPlans(t *testing.T) {
	areSame(t, "empty plans", api.Plan{}, api.Plan{}, true)
	areSame(t, "examples", example(), example(), true)
	areSame(t, "full plans", full(), full(), true)
	p := full()
	areSame(t, "a plan and itself", p, p, true)
	for name, p := range longest() {
		areSame(t, name, p, longest()[name], true)
	}
}

func TestSameOfPlansThatDifferInOneField(t *testing.T) {
	areSame(t, "an empty plan", full(), api.Plan{}, false)
	for name, change := range changes() {
		q := full()
		change(&q)
		areSame(t, name, full(), q, false)
		areSame(t, name, q, q, true)
	}
}

func TestSameOfNilAndEmptyLists(t *testing.T) {
	areSame(t, "cores", api.Plan{}, api.Plan{Cores: [][]api.Window{}}, true)
	areSame(t, "windows", api.Plan{Cores: [][]api.Window{nil}}, api.Plan{Cores: [][]api.Window{{}}}, true)
	areSame(t, "partitions", api.Plan{}, api.Plan{Parts: []api.Part{}}, true)
	areSame(t, "semaphores", api.Plan{Parts: []api.Part{{}}}, api.Plan{Parts: []api.Part{{Sems: []api.Sem{}}}}, true)
	areSame(t, "processes", api.Plan{Parts: []api.Part{{}}}, api.Plan{Parts: []api.Part{{Procs: []uint8{}}}}, true)
	areSame(t, "channels", api.Plan{}, api.Plan{Channels: []api.Channel{}}, true)
	areSame(t, "pairs", api.Plan{}, api.Plan{Pairs: []api.Pair{}}, true)
	areSame(t, "no core", api.Plan{}, api.Plan{Cores: [][]api.Window{{}}}, false)
	areSame(t, "no partition", api.Plan{}, api.Plan{Parts: []api.Part{{}}}, false)
	areSame(t, "no channel", api.Plan{}, api.Plan{Channels: []api.Channel{{}}}, false)
	areSame(t, "no pair", api.Plan{}, api.Plan{Pairs: []api.Pair{{}}}, false)
}

func TestCopyIsEqual(t *testing.T) {
	plans := longest()
	plans["empty"], plans["example"], plans["full"] = api.Plan{}, example(), full()
	plans["empty lists"] = api.Plan{Cores: [][]api.Window{{}, nil}, Parts: []api.Part{{Sems: []api.Sem{}, Procs: []uint8{}}}, Channels: []api.Channel{}, Pairs: []api.Pair{}}
	for name, p := range plans {
		if q := plan.Copy(p); !equal(p, q) || !plan.Same(p, q) {
			t.Errorf("%s: the copy isn't equal", name)
		}
	}
}

// Whatever is changed in a copy, neither the plan nor another copy notices; nor does a copy if the plan changes.
func TestCopyThatIsChanged(t *testing.T) {
	for name, change := range changes() {
		p := full()
		q, r := plan.Copy(p), plan.Copy(p)
		change(&q)
		if !equal(p, full()) || !equal(r, full()) || equal(q, full()) {
			t.Errorf("%s: a copy's change is seen in the plan or in another copy", name)
		}
		change(&p)
		if !equal(r, full()) || !equal(p, q) {
			t.Errorf("%s: the plan's change is seen in a copy", name)
		}
	}
}

// What is put behind a copy's list isn't put into the plan's memory, nor into that of another list.
func TestCopyThatIsLonger(t *testing.T) {
	p := roomy(full())
	q := plan.Copy(p)
	scribble(&q)
	if !equal(p, full()) || !equal(behind(p), behind(roomy(full()))) {
		t.Error("what is behind a copy's lists is seen in the plan")
	}
	if !equal(q, full()) {
		t.Error("what is behind one of a copy's lists is seen in another one")
	}
}

// roomy is a plan each of whose lists has room for three more elements, none of which is zero.
func roomy(p api.Plan) api.Plan {
	p = plain(p)
	p.Cores = room(p.Cores, []api.Window{{Start: 1}})
	for i, windows := range p.Cores {
		p.Cores[i] = room(windows, api.Window{Len: 2})
	}
	p.Parts = room(p.Parts, api.Part{Events: 3})
	for i, part := range p.Parts {
		p.Parts[i].Sems = room(part.Sems, api.Sem{Max: 4})
		p.Parts[i].Procs = room(part.Procs, 5)
	}
	p.Channels, p.Pairs = room(p.Channels, api.Channel{Age: 6}), room(p.Pairs, api.Pair{B: 7})
	return p
}

// room is a list with three elements in its unused capacity.
func room[E any](es []E, e E) []E {
	return slices.Concat(es, []E{e, e, e})[: len(es) : len(es)+3]
}

// behind is a roomy plan with what is in its lists' unused capacity.
func behind(p api.Plan) api.Plan {
	p.Cores = slices.Clone(p.Cores[:cap(p.Cores)])
	for i, windows := range p.Cores {
		p.Cores[i] = windows[:cap(windows)]
	}
	p.Parts = slices.Clone(p.Parts[:cap(p.Parts)])
	for i, part := range p.Parts {
		p.Parts[i].Sems, p.Parts[i].Procs = part.Sems[:cap(part.Sems)], part.Procs[:cap(part.Procs)]
	}
	p.Channels, p.Pairs = p.Channels[:cap(p.Channels)], p.Pairs[:cap(p.Pairs)]
	return p
}

// scribble puts elements behind each list of a plan, into its unused capacity if there is any.
func scribble(p *api.Plan) {
	for _, windows := range p.Cores {
		_ = append(windows, api.Window{Start: 99})
	}
	for _, part := range p.Parts {
		_, _ = append(part.Sems, api.Sem{Init: 99}), append(part.Procs, 99)
	}
	_, _ = append(p.Cores, []api.Window{{Start: 99}}), append(p.Parts, api.Part{Events: 99})
	_, _ = append(p.Channels, api.Channel{Kind: 99}), append(p.Pairs, api.Pair{A: 99})
}

// P3.4

func TestEncodedPlansAreDecodedAgain(t *testing.T) {
	s := source(7)
	for range 5000 {
		p := s.plan()
		b, err := plan.Encode(p)
		if err != nil {
			t.Fatal(err)
		}
		decodes(t, b, p)
		if q, _ := plan.Decode(b); !plan.Same(p, q) {
			t.Errorf("a plan is decoded as another one: %v", p)
		}
	}
}

// Equal plans have equal encodings, others have others.
func TestEachPlanHasOneEncoding(t *testing.T) {
	encodes(t, plan.Copy(full()), fromHex(fullNumbers))
	found := map[string]string{string(fromHex(fullNumbers)): "full"}
	for name, change := range changes() {
		p := full()
		change(&p)
		b, err := plan.Encode(p)
		if other := found[string(b)]; err != nil || other != "" {
			t.Errorf("%s is encoded like %s, or with %v", name, other, err)
		}
		found[string(b)] = name
	}
}

// Bytes that are decoded are the encoding of what they are decoded as: there is no other one.
func TestBytesThatAreDecodedAreAnEncoding(t *testing.T) {
	decoded := 0
	check := func(b []byte) {
		p, err := plan.Decode(b)
		if err != nil {
			return
		}
		decoded++
		encodes(t, p, b)
	}
	for _, b := range [][]byte{fromHex(exampleBytes), fromHex(fullNumbers)} {
		for at := range b {
			for x := range 256 {
				c := bytes.Clone(b)
				c[at] = byte(x)
				check(c)
			}
		}
	}
	s := source(3)
	for range 20000 {
		b := []byte("PUR1")
		for range s.under(40) {
			b = append(b, byte(s.under(3)))
		}
		check(b)
	}
	if decoded < 10000 {
		t.Errorf("only %d were decoded", decoded)
	}
}

// P1 and the rules

func TestDecodeKeepsNothingOfItsBytes(t *testing.T) {
	all := append(fromHex(fullNumbers), 1, 2, 3)
	before := bytes.Clone(all)
	b := all[:len(all)-3]
	p, err := plan.Decode(b)
	q, _ := plan.Decode(b)
	if err != nil || !bytes.Equal(all, before) {
		t.Errorf("Decode has changed its argument, or gives %v", err)
	}
	clear(all)
	if !equal(p, full()) {
		t.Error("a plan has changed with the bytes that it was decoded from")
	}
	for name, change := range changes() {
		changed, _ := plan.Decode(before[:len(b)])
		change(&changed)
		scribble(&changed)
		if !equal(p, full()) || !equal(q, full()) {
			t.Errorf("%s: a decoded plan has changed with another one", name)
		}
	}
	scribble(&p)
	if !equal(p, full()) {
		t.Error("two lists of a decoded plan share memory")
	}
}

func TestEncodeKeepsNothingOfItsPlan(t *testing.T) {
	p := roomy(full())
	b, err := plan.Encode(p)
	c, _ := plan.Encode(p)
	if err != nil || !equal(behind(p), behind(roomy(full()))) {
		t.Errorf("Encode has changed its argument, or gives %v", err)
	}
	clear(b[:cap(b)])
	if !equal(p, full()) || !bytes.Equal(c, fromHex(fullNumbers)) {
		t.Error("a plan or another encoding has changed with an encoding")
	}
}

func TestSameAndCopyChangeNothing(t *testing.T) {
	p, q := roomy(full()), roomy(full())
	plan.Same(p, q)
	plan.Copy(p)
	if !equal(behind(p), behind(roomy(full()))) || !equal(behind(q), behind(roomy(full()))) {
		t.Error("an argument has changed")
	}
}

// A failure is the caller's: whoever changes it changes no other one.
func TestFailuresAreNew(t *testing.T) {
	spoil := func(fail func() error, e api.Errno, at int) {
		t.Helper()
		err := fail()
		isFailure(t, err, e, at)
		*err.(*api.Failure) = api.Failure{At: -1, Err: -1}
		isFailure(t, fail(), e, at)
	}
	decode := func(s string) func() error {
		return func() error { _, err := plan.Decode([]byte(s)); return err }
	}
	spoil(decode("PUR2"), api.ErrPlanMagic, 0)
	spoil(decode("PUR"), api.ErrBlobShort, 0)
	spoil(decode("PUR1\x00\x00\x00\x00\x00\x00\x00"), api.ErrBlobMore, 10)
	spoil(func() error { _, err := plan.Encode(api.Plan{Pairs: make([]api.Pair, 256)}); return err }, api.ErrPlanMany, 3)
}

// The functions of layer 2 tell what is wrong.
func TestFailuresAreThoseOfLayerTwo(t *testing.T) {
	_, err := plan.Decode([]byte("PUR1\x00"))
	if e, at := blob.Why(err); e != api.ErrBlobShort || at != 4 || !blob.Is(err, api.ErrBlobShort) || blob.Is(err, api.ErrPlanMagic) {
		t.Errorf("%d at %d", e, at)
	}
}

// No bytes make Decode panic or run on, and what it refuses it refuses with one of its failures.
func TestDecodeAnyBytes(t *testing.T) {
	s := source(11)
	for i := range 3000 {
		b := []byte("PUR1")
		if i%4 == 0 {
			b = nil
		}
		for range s.under(60) {
			b = append(b, s.small())
		}
		p, err := plan.Decode(b)
		if err == nil {
			continue
		}
		e, at := blob.Why(err)
		if e != api.ErrPlanMagic && e != api.ErrBlobShort && e != api.ErrBlobMore || at < 0 || at > len(b) || !equal(p, api.Plan{}) {
			t.Errorf("Decode(%x) = %v, %v", b, p, err)
		}
	}
	header := fromHex("50555231 ffff ff ff ff ff")
	for n := range 300 {
		if _, err := plan.Decode(slices.Concat(header, slices.Repeat([]byte{255}, n))); !errors.Is(err, api.ErrBlobShort) {
			t.Errorf("%d bytes behind the counts: %v", n, err)
		}
	}
}

// A large plan takes time in proportion to its bytes.
func TestLargePlan(t *testing.T) {
	windows := make([]api.Window, math.MaxUint16)
	p := api.Plan{Cores: slices.Repeat([][]api.Window{windows}, 16)}
	b, err := plan.Encode(p)
	if err != nil || len(b) != 10+16*(2+6*math.MaxUint16) {
		t.Fatalf("%d bytes, %v", len(b), err)
	}
	if q, err := plan.Decode(b); err != nil || !plan.Same(p, q) {
		t.Errorf("another plan, or %v", err)
	}
}
