package image

import (
	"bytes"
	"crypto/hmac"
	"crypto/sha256"
	"math"
	"slices"
	"testing"

	"midstream/api"
	"midstream/isa"
	"midstream/judge"
)

func in(op int, n int32) api.Ins { return api.Ins{Op: op, N: n} }

func push() api.Ins        { return in(api.InPush, 1) }
func drop() api.Ins        { return in(api.InZero, 0) }
func jump(n int32) api.Ins { return in(api.InJump, n) }
func zero(n int32) api.Ins { return in(api.InZero, n) }

// times is an instruction n times.
func times(i api.Ins, n int) []api.Ins {
	return slices.Repeat([]api.Ins{i}, n)
}

// next is the number behind x in a fixed sequence.
func next(x uint32) uint32 {
	x ^= x << 13
	x ^= x >> 17
	return x ^ x<<5
}

// dice is a fixed sequence of numbers.
type dice struct{ x uint32 }

func newDice(seed int) *dice {
	return &dice{x: 2463534242 + uint32(seed)*2654435761}
}

// pick is a number below n.
func (d *dice) pick(n int) int {
	d.x = next(d.x)
	return int(d.x>>8) % n
}

// value is a number of any magnitude.
func (d *dice) value() int32 {
	d.x = next(d.x)
	return int32(d.x) >> (d.x % 32)
}

// small is a valid image in which the numbers of all parts differ.
func small() api.Image {
	return api.Image{
		Version:  0x04030201,
		From:     0x00070605,
		Elder:    3,
		Frame:    api.Frame{Slots: 4, Old: 2, New: 2, Ins: 5, Outs: 6},
		First:    []int32{-2, 0x01020304},
		Step:     []api.Ins{in(api.InIn, 4), zero(2), in(api.InPush, -3), in(api.InKeep, 1), in(api.InCell, 0), in(api.InUn, api.UnNeg), in(api.InOut, 5)},
		Move:     []api.Ins{in(api.InCell, 2), in(api.InCell, 1), in(api.InBin, api.OpGe), in(api.InKeep, 0), jump(0)},
		StepFuel: 7,
		MoveFuel: 5,
	}
}

// smallBytes is the encoding of small, written by hand.
func smallBytes() []byte {
	return slices.Concat(
		[]byte("MIDS"),
		[]byte{1, 2, 3, 4}, []byte{5, 6, 7, 0},
		[]byte{3, 4, 2, 5, 6},
		[]byte{7, 0}, []byte{5, 0},
		[]byte{8, 0, 0xfe, 0xff, 0xff, 0xff, 4, 3, 2, 1},
		[]byte{18, 0, 6, 4, 11, 2, 0, 1, 0xfd, 0xff, 0xff, 0xff, 5, 1, 4, 0, 8, 1, 7, 5},
		[]byte{11, 0, 4, 2, 4, 1, 9, 16, 5, 0, 10, 0, 0},
	)
}

// plain is an image without an elder version and without cells.
func plain(version uint32, step []api.Ins, fuel int) api.Image {
	return api.Image{Version: version, Step: step, StepFuel: fuel}
}

// changed is small after a change.
func changed(change func(m *api.Image)) api.Image {
	m := small()
	change(&m)
	return m
}

// codeFor is a code that is accepted for a frame: pieces that push a value and store it, some of them under a condition.
func (d *dice) codeFor(f api.Frame, pieces int) []api.Ins {
	var out []api.Ins
	for range pieces {
		var piece []api.Ins
		for range 1 + d.pick(3) {
			piece = append(piece, d.source(f))
		}
		for k := 1; k < len(piece); k += 2 {
			piece = slices.Insert(piece, k+1, in(api.InBin, int32(1+d.pick(16))))
		}
		for range depthAfter(piece) {
			piece = append(piece, d.sink(f))
		}
		if d.pick(3) == 0 {
			piece = slices.Concat([]api.Ins{d.source(f), zero(int32(len(piece)))}, piece)
		}
		out = append(out, piece...)
	}
	return out
}

// depthAfter is how many values a piece of pushes and binary operations leaves.
func depthAfter(piece []api.Ins) int {
	out := 0
	for _, i := range piece {
		if i.Op == api.InBin {
			out--
		} else {
			out++
		}
	}
	return out
}

// source is an instruction that pushes a value.
func (d *dice) source(f api.Frame) api.Ins {
	return d.access([]int{api.InLoad, api.InCell, api.InIn}, []int{f.Slots, f.Old, f.Ins}, in(api.InPush, d.value()))
}

// sink is an instruction that pops a value.
func (d *dice) sink(f api.Frame) api.Ins {
	return d.access([]int{api.InStore, api.InKeep, api.InOut}, []int{f.Slots, f.New, f.Outs}, drop())
}

// access is one of some instructions with a place that the frame has, or otherwise another instruction.
func (d *dice) access(ops, counts []int, otherwise api.Ins) api.Ins {
	k := d.pick(len(ops))
	if counts[k] == 0 || d.pick(4) == 0 {
		return otherwise
	}
	return in(ops[k], int32(d.pick(counts[k])))
}

// some is a valid image, other ones for other seeds.
func some(seed int) api.Image {
	d := newDice(seed)
	cells := d.pick(17)
	m := api.Image{Version: 1 + uint32(d.pick(1000)), Frame: api.Frame{Slots: d.pick(25), Old: cells, New: cells, Ins: d.pick(9), Outs: d.pick(9)}}
	for range cells {
		m.First = append(m.First, d.value())
	}
	m.Step = d.codeFor(m.Frame, d.pick(30))
	if d.pick(3) > 0 {
		m.From = uint32(d.pick(int(m.Version)))
	}
	if m.From > 0 {
		m.Elder = d.pick(17)
		m.Move = d.codeFor(api.Frame{Old: m.Elder, New: cells}, d.pick(10))
	}
	return fuelled(m)
}

// fuelled is an image with the fuels that judge tells.
func fuelled(m api.Image) api.Image {
	step, _, _ := judge.Check(m.Step, m.Frame)
	move, _, _ := judge.Check(m.Move, api.Frame{Old: m.Elder, New: m.Frame.New})
	m.StepFuel, m.MoveFuel = step.Fuel, move.Fuel
	return m
}

// spoiled is an image of which one or two parts are changed; most of them are not valid.
func spoiled(seed int) api.Image {
	m, d := copied(some(seed)), newDice(seed+1000)
	for range 1 + d.pick(2) {
		near := d.pick(5) - 2
		switch d.pick(16) {
		case 0:
			m.Version = uint32(d.pick(4))
		case 1:
			m.From = m.Version + uint32(near)
		case 2:
			m.From = 0
		case 3:
			m.Elder += near
		case 4:
			m.Elder = []int{-1, 0, 16, 17}[d.pick(4)]
		case 5:
			m.Frame.Old += near
		case 6:
			m.Frame.New += near
		case 7:
			m.First = append(m.First, 1)
		case 8:
			m.First = m.First[:d.pick(len(m.First)+1)]
		case 9:
			m.Frame.Slots += d.pick(50) - 25
		case 10:
			m.Frame.Ins += near
		case 11:
			m.Frame.Outs += near
		case 12:
			m.StepFuel += near
		case 13:
			m.MoveFuel += near
		case 14:
			m.Step = d.spoiledCode(m.Step)
		default:
			m.Move = d.spoiledCode(m.Move)
		}
	}
	return m
}

// spoiledCode is a code of which one instruction is another one, left out, or told once more.
func (d *dice) spoiledCode(code []api.Ins) []api.Ins {
	if len(code) == 0 {
		return []api.Ins{push()}
	}
	at := d.pick(len(code))
	switch d.pick(3) {
	case 0:
		return slices.Delete(slices.Clone(code), at, at+1)
	case 1:
		return slices.Insert(slices.Clone(code), at, code[at])
	}
	out := slices.Clone(code)
	out[at] = in(d.pick(13), int32(d.pick(30)-2))
	return out
}

// copied is an image whose slices are its own.
func copied(m api.Image) api.Image {
	m.First, m.Step, m.Move = slices.Clone(m.First), slices.Clone(m.Step), slices.Clone(m.Move)
	return m
}

// same is whether two images are the same; a nil slice is an empty one.
func same(a, b api.Image) bool {
	return a.Version == b.Version && a.From == b.From && a.Elder == b.Elder && a.Frame == b.Frame &&
		slices.Equal(a.First, b.First) && slices.Equal(a.Step, b.Step) && slices.Equal(a.Move, b.Move) &&
		a.StepFuel == b.StepFuel && a.MoveFuel == b.MoveFuel
}

// wantCheck is the error that the chapter names, one condition after the other.
func wantCheck(m api.Image) api.Errno {
	for _, wrong := range []bool{
		m.Version == 0,
		m.From >= m.Version,
		m.Elder < 0,
		m.Elder > 16,
		m.Frame.Old != m.Frame.New,
		len(m.First) != m.Frame.New,
		m.From == 0 && m.Elder != 0,
		m.From == 0 && len(m.Move) != 0,
	} {
		if wrong {
			return api.ErrArg
		}
	}
	r, e, _ := judge.Check(m.Step, m.Frame)
	if e != api.OK {
		return e
	}
	if m.StepFuel != r.Fuel {
		return api.ErrFuel
	}
	r, e, _ = judge.Check(m.Move, api.Frame{Slots: 0, Old: m.Elder, New: m.Frame.New, Ins: 0, Outs: 0})
	if e != api.OK {
		return e
	}
	if m.MoveFuel != r.Fuel {
		return api.ErrFuel
	}
	return api.OK
}

// number is a number in some bytes, found by division.
func number(width int, n uint64) []byte {
	var out []byte
	for range width {
		out = append(out, byte(n%256))
		n /= 256
	}
	return out
}

// run is bytes with their length before them.
func run(b []byte) []byte {
	return append(number(2, uint64(len(b))), b...)
}

// codeBytes is the encoding of a code, also of one that is not valid.
func codeBytes(code []api.Ins) []byte {
	var out []byte
	for _, i := range code {
		width := 1
		switch i.Op {
		case api.InPush:
			width = 4
		case api.InJump, api.InZero:
			width = 2
		}
		out = append(out, byte(i.Op))
		out = append(out, number(width, uint64(uint32(i.N)))...)
	}
	return out
}

// valueBytes is four bytes for each value.
func valueBytes(values []int32) []byte {
	var out []byte
	for _, v := range values {
		out = append(out, number(4, uint64(uint32(v)))...)
	}
	return out
}

// head is the encoding of an image up to its runs.
func head(m api.Image) []byte {
	return slices.Concat(
		[]byte{0x4d, 0x49, 0x44, 0x53},
		number(4, uint64(m.Version)), number(4, uint64(m.From)),
		[]byte{byte(m.Elder), byte(m.Frame.Slots), byte(m.Frame.New), byte(m.Frame.Ins), byte(m.Frame.Outs)},
		number(2, uint64(m.StepFuel)), number(2, uint64(m.MoveFuel)),
	)
}

// wantBytes is the encoding of an image, valid or not.
func wantBytes(m api.Image) []byte {
	return slices.Concat(head(m), run(valueBytes(m.First)), run(codeBytes(m.Step)), run(codeBytes(m.Move)))
}

// sealed is bytes with their tag by Go's library behind them.
func sealed(b, key []byte) []byte {
	h := hmac.New(sha256.New, key)
	h.Write(b)
	return h.Sum(bytes.Clone(b))
}

// keys are no bytes, few, as many as a block has, and more.
func keys() [][]byte {
	return [][]byte{nil, {}, []byte("key"), bytes.Repeat([]byte{7}, 64), bytes.Repeat([]byte{9}, 65), bytes.Repeat([]byte{0xa5}, 300)}
}

// checks expects an answer of Check, and the same error of Encode and Sign beside no bytes.
func checks(t *testing.T, m api.Image, want api.Errno) {
	t.Helper()
	if e := Check(m); e != want {
		t.Errorf("Check of %.200v = %d, want %d", m, e, want)
	}
	if want == api.OK {
		return
	}
	if b, e := Encode(m); len(b) != 0 || e != want {
		t.Errorf("Encode of %.200v = %d bytes, %d, want %d", m, len(b), e, want)
	}
	if b, e := Sign(m, []byte("key")); len(b) != 0 || e != want {
		t.Errorf("Sign of %.200v = %d bytes, %d, want %d", m, len(b), e, want)
	}
}

// encodes expects that an image is encoded as these bytes, and that they are parsed to it.
func encodes(t *testing.T, m api.Image, want []byte) {
	t.Helper()
	checks(t, m, api.OK)
	if b, e := Encode(m); !bytes.Equal(b, want) || e != api.OK {
		t.Errorf("Encode of %v = %x, %d, want %x", m, b, e, want)
	}
	if got, e := Parse(want); !same(got, m) || e != api.OK {
		t.Errorf("Parse of %x = %v, %d, want %v", want, got, e, m)
	}
}

// refuses expects that Parse returns an error and no image, and that so does Open of the sealed bytes.
func refuses(t *testing.T, b []byte, want api.Errno) {
	t.Helper()
	if m, e := Parse(b); !same(m, api.Image{}) || e != want {
		t.Errorf("Parse of %d bytes %.60x = %v, %d, want %d", len(b), b, m, e, want)
	}
	unopened(t, sealed(b, []byte("key")), []byte("key"), want)
}

// unopened expects that Open returns an error and no image.
func unopened(t *testing.T, b, key []byte, want api.Errno) {
	t.Helper()
	if m, e := Open(b, key); !same(m, api.Image{}) || e != want {
		t.Errorf("Open of %d bytes %.60x under %.20x = %v, %d, want %d", len(b), b, key, m, e, want)
	}
}

// P11.1: the examples, and the image in which all numbers differ.
func TestCheckExamples(t *testing.T) {
	checks(t, api.Image{Version: 1}, api.OK)
	checks(t, api.Image{}, api.ErrArg)
	checks(t, api.Image{Version: 1, From: 1}, api.ErrArg)
	checks(t, small(), api.OK)
}

// P11.1: Version is not 0, and From is below it; both are numbers without a sign.
func TestCheckVersions(t *testing.T) {
	edges := []uint32{0, 1, 2, 3, 255, 256, 1<<31 - 1, 1 << 31, 1<<31 + 1, math.MaxUint32 - 1, math.MaxUint32}
	for _, version := range edges {
		for _, from := range edges {
			want := api.ErrArg
			if version != 0 && from < version {
				want = api.OK
			}
			checks(t, api.Image{Version: version, From: from}, want)
		}
	}
}

// P11.1: Elder is from 0 to 16, and 0 if From is 0.
func TestCheckElder(t *testing.T) {
	for elder := range 17 {
		checks(t, api.Image{Version: 2, From: 1, Elder: elder}, api.OK)
		if elder > 0 {
			checks(t, api.Image{Version: 2, Elder: elder}, api.ErrArg)
		}
	}
	for _, elder := range []int{-1, -2, 17, 18, 255, 256, 1 << 32, -1 << 32, math.MaxInt, math.MinInt} {
		checks(t, api.Image{Version: 2, From: 1, Elder: elder}, api.ErrArg)
		checks(t, api.Image{Version: 2, Elder: elder}, api.ErrArg)
	}
}

// P11.1: Move has no instructions if From is 0, whatever MoveFuel is; with From it may have some or none.
func TestCheckMoveWithoutFrom(t *testing.T) {
	checks(t, api.Image{Version: 2, Move: times(jump(0), 1), MoveFuel: 1}, api.ErrArg)
	checks(t, api.Image{Version: 2, Move: times(jump(0), 1)}, api.ErrArg)
	checks(t, api.Image{Version: 2, Move: []api.Ins{}}, api.OK)
	checks(t, api.Image{Version: 2, From: 1, Move: times(jump(0), 1), MoveFuel: 1}, api.OK)
	checks(t, api.Image{Version: 2, From: 1, Elder: 1}, api.OK)
	// Without a Move its fuel is 0.
	for _, from := range []uint32{0, 1} {
		for _, fuel := range []int{-1, 1, 600} {
			checks(t, api.Image{Version: 2, From: from, MoveFuel: fuel}, api.ErrFuel)
		}
	}
}

// P11.1: as many old cells as new ones, and as many values.
func TestCheckCells(t *testing.T) {
	for old := range 18 {
		for cells := range 18 {
			for values := range 18 {
				want := api.ErrArg
				if old == cells && cells == values && cells <= 16 {
					want = api.OK
				}
				m := api.Image{Version: 1, Frame: api.Frame{Old: old, New: cells}, First: make([]int32, values)}
				if e := Check(m); e != want {
					t.Errorf("Check with %d old and %d new cells and %d values = %d, want %d", old, cells, values, e, want)
				}
			}
		}
	}
	for _, n := range []int{-1, -16, math.MinInt, 1 << 32, math.MaxInt} {
		checks(t, api.Image{Version: 1, Frame: api.Frame{Old: n, New: n}}, api.ErrArg)
		checks(t, api.Image{Version: 1, Frame: api.Frame{Old: n}}, api.ErrArg)
		checks(t, api.Image{Version: 1, Frame: api.Frame{New: n}}, api.ErrArg)
	}
	checks(t, api.Image{Version: 1, First: make([]int32, 1)}, api.ErrArg)
	checks(t, api.Image{Version: 1, First: make([]int32, 1<<16)}, api.ErrArg)
}

// P11.1: a frame that is not valid is ErrArg, the error of judge.
func TestCheckFrame(t *testing.T) {
	for _, n := range []int{-1, 25, 256, math.MinInt, math.MaxInt} {
		checks(t, api.Image{Version: 1, Frame: api.Frame{Slots: n}}, api.ErrArg)
		checks(t, api.Image{Version: 1, Frame: api.Frame{Ins: n}}, api.ErrArg)
		checks(t, api.Image{Version: 1, Frame: api.Frame{Outs: n}}, api.ErrArg)
	}
	checks(t, api.Image{Version: 1, Frame: api.Frame{Slots: 24, Ins: 8, Outs: 8}}, api.OK)
	checks(t, api.Image{Version: 1, Frame: api.Frame{Ins: 9}}, api.ErrArg)
	checks(t, api.Image{Version: 1, Frame: api.Frame{Outs: 9}}, api.ErrArg)
}

// wrongCodes are codes that judge refuses in every frame, each with its error.
func wrongCodes() map[api.Errno][]api.Ins {
	return map[api.Errno][]api.Ins{
		api.ErrOp:    {in(api.InUn, 3)},
		api.ErrRange: {in(api.InCell, 16)},
		api.ErrReach: {jump(1), push(), drop()},
		api.ErrJump:  {push(), zero(5)},
		api.ErrStack: {push()},
		api.ErrBig:   times(jump(0), 601),
	}
}

// P11.1: the errors of judge are passed on, for Step and for Move.
func TestCheckCodes(t *testing.T) {
	for e, code := range wrongCodes() {
		checks(t, plain(1, code, len(code)), e)
		checks(t, api.Image{Version: 2, From: 1, Move: code, MoveFuel: len(code)}, e)
	}
	checks(t, plain(1, times(jump(0), 600), 600), api.OK)
	checks(t, api.Image{Version: 2, From: 1, Move: times(jump(0), 600), MoveFuel: 600}, api.OK)
	checks(t, plain(1, []api.Ins{{Op: 1<<32 + api.InJump}}, 1), api.ErrOp)
	checks(t, plain(1, times(push(), 70000), 70000), api.ErrBig)
}

// rangeFrom is ErrRange for a place from a count on.
func rangeFrom(n int32, count int) api.Errno {
	if int(n) < count {
		return api.OK
	}
	return api.ErrRange
}

// P11.1: Step stays within Frame.
func TestCheckStepFrame(t *testing.T) {
	f := api.Frame{Slots: 1, Old: 3, New: 3, Ins: 5, Outs: 7}
	for op, count := range map[int]int{api.InLoad: 1, api.InCell: 3, api.InIn: 5, api.InStore: 1, api.InKeep: 3, api.InOut: 7} {
		for n := range int32(9) {
			code := []api.Ins{push(), in(op, n)}
			if op == api.InLoad || op == api.InCell || op == api.InIn {
				code = []api.Ins{in(op, n), drop()}
			}
			checks(t, api.Image{Version: 9, From: 8, Elder: 16, Frame: f, First: make([]int32, 3), Step: code, StepFuel: 2}, rangeFrom(n, count))
		}
	}
}

// P11.1: the frame of Move has Elder old cells and the new cells of Frame, and nothing else, whatever Frame has.
func TestCheckMoveFrame(t *testing.T) {
	for elder := range 17 {
		for cells := range 17 {
			f := api.Frame{Slots: 24, Old: cells, New: cells, Ins: 8, Outs: 8}
			m := api.Image{Version: 9, From: 8, Elder: elder, Frame: f, First: make([]int32, cells), MoveFuel: 2}
			for n := range int32(17) {
				m.Move = []api.Ins{in(api.InCell, n), drop()}
				checks(t, m, rangeFrom(n, elder))
				m.Move = []api.Ins{push(), in(api.InKeep, n)}
				checks(t, m, rangeFrom(n, cells))
			}
		}
	}
	for _, code := range [][]api.Ins{{in(api.InLoad, 0), drop()}, {push(), in(api.InStore, 0)}, {in(api.InIn, 0), drop()}, {push(), in(api.InOut, 0)}} {
		m := api.Image{Version: 9, From: 8, Elder: 16, Frame: api.Frame{Slots: 24, Old: 16, New: 16, Ins: 8, Outs: 8}, First: make([]int32, 16), MoveFuel: 2, Move: code}
		checks(t, m, api.ErrRange)
	}
}

// P11.1: the fuels are exactly those that judge reports: not more, not less, and not the number of instructions.
func TestCheckFuels(t *testing.T) {
	for _, off := range []int{-600, -2, -1, 1, 2, 256, 1 << 16, 1 << 32, math.MaxInt - 10, math.MinInt} {
		checks(t, changed(func(m *api.Image) { m.StepFuel += off }), api.ErrFuel)
		checks(t, changed(func(m *api.Image) { m.MoveFuel += off }), api.ErrFuel)
	}
	// Of the two branches only one is executed.
	branches := []api.Ins{push(), zero(2), jump(0), jump(2), jump(0), jump(0)}
	for fuel := range 10 {
		want := api.ErrFuel
		if fuel == 4 {
			want = api.OK
		}
		checks(t, plain(1, branches, fuel), want)
		checks(t, api.Image{Version: 2, From: 1, Move: branches, MoveFuel: fuel}, want)
	}
	checks(t, changed(func(m *api.Image) { m.StepFuel, m.MoveFuel = m.MoveFuel, m.StepFuel }), api.ErrFuel)
}

// P11.1: where several parts are wrong, the one that the chapter lists first is told.
func TestCheckOrder(t *testing.T) {
	for e, code := range wrongCodes() {
		// What is ErrArg counts before the codes and the fuels.
		for _, change := range []func(m *api.Image){
			func(m *api.Image) { m.Version = 0 },
			func(m *api.Image) { m.From = m.Version },
			func(m *api.Image) { m.Elder = -1 },
			func(m *api.Image) { m.Elder = 17 },
			func(m *api.Image) { m.Frame.Old = 1 },
			func(m *api.Image) { m.Frame.New = 3 },
			func(m *api.Image) { m.First = nil },
			func(m *api.Image) { m.From = 0 },
			func(m *api.Image) { m.Frame.Slots = 25 },
		} {
			m := changed(change)
			m.Step, m.Move, m.StepFuel = code, code, -1
			checks(t, m, api.ErrArg)
		}
		// Step counts before its fuel, and both before Move.
		checks(t, changed(func(m *api.Image) { m.Step, m.StepFuel = code, -1 }), e)
		checks(t, changed(func(m *api.Image) { m.Step, m.Move = code, []api.Ins{{}} }), e)
		checks(t, changed(func(m *api.Image) { m.Step, m.MoveFuel = code, -1 }), e)
		checks(t, changed(func(m *api.Image) { m.StepFuel, m.Move = -1, code }), api.ErrFuel)
		checks(t, changed(func(m *api.Image) { m.StepFuel, m.MoveFuel = -1, -1 }), api.ErrFuel)
		// Move counts before its fuel.
		checks(t, changed(func(m *api.Image) { m.Move, m.MoveFuel = code, -1 }), e)
	}
}

// P11.1: images of all kinds, valid ones and spoiled ones, against the chapter's words.
func TestCheckAgainstWords(t *testing.T) {
	told := map[api.Errno]int{}
	for seed := range 6000 {
		checks(t, some(seed), api.OK)
		m := spoiled(seed)
		want := wantCheck(m)
		checks(t, m, want)
		told[want]++
	}
	for _, e := range []api.Errno{api.OK, api.ErrArg, api.ErrOp, api.ErrRange, api.ErrJump, api.ErrStack, api.ErrFuel} {
		if told[e] < 10 {
			t.Errorf("only %d images with the error %d", told[e], e)
		}
	}
}

// P11.2: the example, and an encoding written by hand.
func TestBytesExamples(t *testing.T) {
	encodes(t, api.Image{Version: 1}, slices.Concat([]byte{0x4d, 0x49, 0x44, 0x53, 1}, make([]byte, 22)))
	encodes(t, small(), smallBytes())
	refuses(t, slices.Concat([]byte("MIDS"), make([]byte, 23)), api.ErrArg)
	refuses(t, slices.Concat([]byte("MIDS\x01\x00\x00\x00\x01"), make([]byte, 18)), api.ErrArg)
	refuses(t, slices.Concat([]byte("MIDS\x01"), make([]byte, 23)), api.ErrForm)
	refuses(t, slices.Concat([]byte("MIDS\x01"), make([]byte, 21)), api.ErrForm)
	refuses(t, nil, api.ErrForm)
	refuses(t, []byte{}, api.ErrForm)
}

// P11.2: every number of the head at its edges, in all of its bytes.
func TestBytesNumbers(t *testing.T) {
	for _, version := range []uint32{1, 0xff, 0x100, 0x01020304, 0xfffefdfc, math.MaxUint32} {
		for _, from := range []uint32{0, version / 2, version - 1} {
			m := api.Image{Version: version, From: from}
			encodes(t, m, wantBytes(m))
		}
	}
	for n := range 25 {
		f := api.Frame{Slots: n, Old: n % 17, New: n % 17, Ins: n % 9, Outs: (n + 4) % 9}
		m := api.Image{Version: 2, From: 1, Elder: (n + 9) % 17, Frame: f, First: slices.Repeat([]int32{int32(n) - 12}, n%17)}
		encodes(t, m, wantBytes(m))
	}
	for _, fuel := range []int{1, 2, 255, 256, 257, 511, 512, 600} {
		m := plain(1, times(jump(0), fuel), fuel)
		encodes(t, m, wantBytes(m))
		m = api.Image{Version: 2, From: 1, Move: times(jump(0), fuel), MoveFuel: fuel}
		encodes(t, m, wantBytes(m))
	}
	values := []int32{0, 1, -1, 255, 256, -256, 0x7f, 0x80, 0x01020304, -0x01020304, math.MaxInt32, math.MinInt32, math.MaxInt32 - 1, math.MinInt32 + 1, 1 << 24, -1 << 24}
	for count := range 17 {
		m := api.Image{Version: 1, Frame: api.Frame{Old: count, New: count}, First: values[:count]}
		encodes(t, m, wantBytes(m))
	}
}

// sized is a valid image whose encoding has a number of bytes from 1829 on; with moved about half of them are the Move's.
func sized(size int, moved bool) api.Image {
	// A push and its drop have two bytes more than two jumps.
	rest := size - 27
	pairs := 0
	for (rest-8*pairs)%3 != 0 {
		pairs++
	}
	for !moved && (rest-8*pairs)/3+2*pairs > 600 {
		pairs += 3
	}
	code := append(slices.Repeat([]api.Ins{push(), drop()}, pairs), times(jump(0), (rest-8*pairs)/3)...)
	if !moved {
		return plain(1, code, len(code))
	}
	half := len(code) / 2 / 2 * 2
	return api.Image{Version: 2, From: 1, Step: code[:half], Move: code[half:], StepFuel: half, MoveFuel: len(code) - half}
}

// P11.2: an encoding of 2016 bytes is the greatest.
func TestBytesLimit(t *testing.T) {
	for size := 1990; size < 2050; size++ {
		for _, moved := range []bool{false, true} {
			m := sized(size, moved)
			b := wantBytes(m)
			if len(b) != size {
				t.Fatalf("an image of %d bytes, not %d", len(b), size)
			}
			if size <= 2016 {
				encodes(t, m, b)
				continue
			}
			if e := Check(m); e != api.OK {
				t.Errorf("Check of an image of %d bytes = %d", size, e)
			}
			if got, e := Encode(m); len(got) != 0 || e != api.ErrBig {
				t.Errorf("Encode of an image of %d bytes = %d bytes, %d", size, len(got), e)
			}
			if got, e := Parse(b); !same(got, api.Image{}) || e != api.ErrBig {
				t.Errorf("Parse of %d bytes = %v, %d", size, got, e)
			}
			// What is wrong of the image counts before its size.
			m.StepFuel++
			checks(t, m, api.ErrFuel)
			m.Version = 0
			checks(t, m, api.ErrArg)
		}
	}
	code := slices.Repeat([]api.Ins{push(), drop()}, 300)
	greatest := api.Image{Version: 2, From: 1, Frame: api.Frame{Old: 16, New: 16}, First: make([]int32, 16), Step: code, Move: code, StepFuel: 600, MoveFuel: 600}
	if b, e := Encode(greatest); len(b) != 0 || e != api.ErrBig || Check(greatest) != api.OK {
		t.Errorf("Encode of the greatest image = %d bytes, %d", len(b), e)
	}
}

// P11.2: more than 2016 bytes are ErrBig, whatever they are; 2016 that encode nothing are ErrForm.
func TestParseBig(t *testing.T) {
	for _, size := range []int{2017, 2018, 2048, 2049, 5000, 70000} {
		for _, fill := range []byte{0, 1, 0xff} {
			b := bytes.Repeat([]byte{fill}, size)
			if m, e := Parse(b); !same(m, api.Image{}) || e != api.ErrBig {
				t.Errorf("Parse of %d bytes %d = %v, %d", size, fill, m, e)
			}
			copy(b, "MIDS")
			if m, e := Parse(b); !same(m, api.Image{}) || e != api.ErrBig {
				t.Errorf("Parse of MIDS and %d bytes %d = %v, %d", size-4, fill, m, e)
			}
		}
	}
	refuses(t, make([]byte, 2016), api.ErrForm)
	full := make([]byte, 2016)
	copy(full, smallBytes())
	refuses(t, full, api.ErrForm)
}

// P11.2: bytes that end too early, or too late, are not the encoding of an image, wherever it is.
func TestParseLengths(t *testing.T) {
	for _, m := range []api.Image{{Version: 1}, small(), some(1), some(2), some(3), {}} {
		b := wantBytes(m)
		for size := range b {
			refuses(t, b[:size], api.ErrForm)
		}
		for more := 1; more < 40; more++ {
			refuses(t, append(bytes.Clone(b), make([]byte, more)...), api.ErrForm)
		}
		refuses(t, append(bytes.Clone(b), b...), api.ErrForm)
		refuses(t, append([]byte{0}, b...), api.ErrForm)
		refuses(t, b[1:], api.ErrForm)
	}
}

// P11.2: the letters are MIDS, in every bit.
func TestParseLetters(t *testing.T) {
	for bit := range 32 {
		b := smallBytes()
		b[bit/8] ^= 1 << (bit % 8)
		refuses(t, b, api.ErrForm)
	}
	for _, letters := range []string{"mids", "SDIM", "MIDs", "\x00\x00\x00\x00"} {
		refuses(t, append([]byte(letters), smallBytes()[4:]...), api.ErrForm)
	}
}

// P11.2: a First of four bytes a value, or it is not the encoding of any image.
func TestParseFirst(t *testing.T) {
	for size := range 80 {
		b := slices.Concat(head(api.Image{Version: 1, Frame: api.Frame{New: 2}}), run(make([]byte, size)), run(nil), run(nil))
		switch {
		case size%4 != 0:
			refuses(t, b, api.ErrForm)
		case size != 8:
			refuses(t, b, api.ErrArg)
		default:
			encodes(t, api.Image{Version: 1, Frame: api.Frame{Old: 2, New: 2}, First: make([]int32, 2)}, b)
		}
	}
}

// P11.2: a run whose length is another one than that of its bytes.
func TestParseRuns(t *testing.T) {
	m := changed(func(m *api.Image) { m.Step, m.StepFuel = times(jump(0), 4), 4 })
	encodes(t, m, wantBytes(m))
	start := 21
	for _, size := range []int{8, 12, 11} {
		for _, length := range []int{0, size - 4, size - 3, size - 1, size + 1, size + 2, size + 4, 255, 256, size + 256, 0x8000, 0xffff} {
			b := wantBytes(m)
			copy(b[start:], number(2, uint64(length)))
			refuses(t, b, api.ErrForm)
		}
		start += 2 + size
	}
}

// P11.2: codes that isa.Encode would not accept are not encoded by any image, in Step or in Move.
func TestParseCodes(t *testing.T) {
	for _, code := range [][]byte{
		{0}, {0, 0}, {12}, {12, 0}, {255, 0}, {8, 0}, {8, 3}, {8, 255}, {9, 0}, {9, 17},
		{1}, {1, 0, 0, 0}, {2}, {8}, {9}, {10}, {10, 0}, {11, 0}, {10, 0, 0, 1}, {10, 0, 0, 0},
		bytes.Repeat([]byte{10, 0, 0}, 601), bytes.Repeat([]byte{8, 1}, 601), append(bytes.Repeat([]byte{10, 0, 0}, 600), 0),
	} {
		for _, version := range []uint32{0, 3} {
			h := head(api.Image{Version: version, From: 1, StepFuel: 1})
			refuses(t, slices.Concat(h, run(nil), run(code), run(nil)), api.ErrForm)
			refuses(t, slices.Concat(h, run(nil), run(nil), run(code)), api.ErrForm)
		}
	}
	// Codes that judge refuses are encoded nevertheless, so the error of Check is told.
	for e, code := range wrongCodes() {
		if e == api.ErrOp || e == api.ErrBig {
			continue
		}
		refuses(t, wantBytes(plain(1, code, len(code))), e)
		refuses(t, wantBytes(api.Image{Version: 2, From: 1, Move: code, MoveFuel: len(code)}), e)
	}
	refuses(t, wantBytes(plain(1, []api.Ins{in(api.InLoad, 255), drop()}, 2)), api.ErrRange)
	refuses(t, wantBytes(plain(1, []api.Ins{jump(65535)}, 1)), api.ErrJump)
}

// P11.2: ErrForm counts before what is wrong of the image.
func TestParseOrder(t *testing.T) {
	wrong := wantBytes(changed(func(m *api.Image) { m.Version, m.StepFuel = 0, 9 }))
	refuses(t, wrong, api.ErrArg)
	refuses(t, append(wrong, 0), api.ErrForm)
	refuses(t, wrong[:len(wrong)-1], api.ErrForm)
	fuel := wantBytes(changed(func(m *api.Image) { m.StepFuel = 65535 }))
	refuses(t, fuel, api.ErrFuel)
	refuses(t, fuel[:len(fuel)-1], api.ErrForm)
	refuses(t, wantBytes(changed(func(m *api.Image) { m.MoveFuel = 5 + 256 })), api.ErrFuel)
	refuses(t, wantBytes(changed(func(m *api.Image) { m.From = m.Version })), api.ErrArg)
}

// P11.2: each byte of the counts at each of its values: the error is that of Check, with as many old cells as new ones.
func TestParseCounts(t *testing.T) {
	for n := range 256 {
		for _, change := range []func(m *api.Image){
			func(m *api.Image) { m.Elder = n },
			func(m *api.Image) { m.Frame.Slots = n },
			func(m *api.Image) { m.Frame.Old, m.Frame.New = n, n },
			func(m *api.Image) { m.Frame.Ins = n },
			func(m *api.Image) { m.Frame.Outs = n },
		} {
			m := changed(change)
			if want := wantCheck(m); want != api.OK {
				refuses(t, wantBytes(m), want)
			} else {
				encodes(t, m, wantBytes(m))
			}
		}
	}
}

// encodable is whether the encoding has room for all numbers of an image, and isa.Encode accepts its codes.
func encodable(m api.Image) bool {
	for _, n := range []int{m.Elder, m.Frame.Slots, m.Frame.New, m.Frame.Ins, m.Frame.Outs} {
		if n < 0 || n > 255 {
			return false
		}
	}
	if min(m.StepFuel, m.MoveFuel) < 0 || max(m.StepFuel, m.MoveFuel) > 65535 {
		return false
	}
	_, step := isa.Encode(m.Step)
	_, move := isa.Encode(m.Move)
	return step == api.OK && move == api.OK
}

// P11.2 and P11.4: the encodings of spoiled images are parsed to the error of Check.
func TestParseAgainstWords(t *testing.T) {
	parsed := 0
	for seed := range 6000 {
		m := spoiled(seed)
		m.Frame.Old = m.Frame.New
		if !encodable(m) {
			continue
		}
		parsed++
		if want := wantCheck(m); want != api.OK {
			refuses(t, wantBytes(m), want)
		} else {
			encodes(t, m, wantBytes(m))
		}
	}
	if parsed < 3000 {
		t.Errorf("only %d images could be encoded", parsed)
	}
}

// P11.4: valid images are encoded and decoded unchanged.
func TestInverse(t *testing.T) {
	for seed := range 3000 {
		m := some(seed)
		encodes(t, m, wantBytes(m))
	}
}

// P11.4: whatever bytes Parse takes are the encoding of its image: each byte of some encodings at each of its values.
func TestInverseOfBytes(t *testing.T) {
	taken := 0
	for _, m := range []api.Image{small(), some(5), {Version: 1}} {
		b := wantBytes(m)
		for at := range b {
			for n := range 256 {
				arg := bytes.Clone(b)
				arg[at] = byte(n)
				got, e := Parse(arg)
				if e != api.OK {
					if !same(got, api.Image{}) {
						t.Errorf("Parse of %x = %v, %d", arg, got, e)
					}
					continue
				}
				taken++
				if again, e := Encode(got); !bytes.Equal(again, arg) || e != api.OK || wantCheck(got) != api.OK {
					t.Errorf("Encode of Parse of %x = %x, %d", arg, again, e)
				}
			}
		}
	}
	if taken < 1000 {
		t.Errorf("only %d byte strings were taken", taken)
	}
}

// P11.3: the encoding, then its tag by Go's library; opened under the same key it is the image.
func TestSign(t *testing.T) {
	for seed := range 100 {
		m := some(seed)
		for _, key := range keys() {
			want := sealed(wantBytes(m), key)
			if b, e := Sign(m, key); !bytes.Equal(b, want) || e != api.OK {
				t.Errorf("Sign of %v under %d bytes = %x, %d", m, len(key), b, e)
			}
			if got, e := Open(want, key); !same(got, m) || e != api.OK {
				t.Errorf("Open of %x under %d bytes = %v, %d", want, len(key), got, e)
			}
		}
	}
}

// P11.3: Sign has the errors of Encode; 2048 signed bytes are opened, and more are ErrBig, also if their tag is right.
func TestSignedLimit(t *testing.T) {
	key := []byte("key")
	for size := 2010; size < 2030; size++ {
		m := sized(size, true)
		want := sealed(wantBytes(m), key)
		b, e := Sign(m, key)
		got, opened := Open(want, key)
		if size > 2016 {
			if len(b) != 0 || e != api.ErrBig || !same(got, api.Image{}) || opened != api.ErrBig {
				t.Errorf("an image of %d bytes: %d bytes, %d, %v, %d", size, len(b), e, got, opened)
			}
			continue
		}
		if !bytes.Equal(b, want) || e != api.OK || !same(got, m) || opened != api.OK {
			t.Errorf("an image of %d bytes: %d bytes, %d, %v, %d", size, len(b), e, got, opened)
		}
	}
	for _, size := range []int{2049, 2050, 4096, 70000} {
		unopened(t, make([]byte, size), key, api.ErrBig)
		unopened(t, sealed(make([]byte, size-32), key), key, api.ErrBig)
	}
	unopened(t, make([]byte, 2048), key, api.ErrTag)
	unopened(t, sealed(make([]byte, 2016), key), key, api.ErrForm)
}

// P11.3: fewer than 32 bytes are ErrShort; 32 are the tag of no bytes, which encode nothing, or ErrTag.
func TestOpenShort(t *testing.T) {
	for _, key := range keys() {
		tag := sealed(nil, key)
		for size := range 32 {
			unopened(t, tag[:size], key, api.ErrShort)
			unopened(t, make([]byte, size), key, api.ErrShort)
		}
		unopened(t, nil, key, api.ErrShort)
		unopened(t, tag, key, api.ErrForm)
		unopened(t, make([]byte, 32), key, api.ErrTag)
	}
}

// P11.3: the tag counts before what is wrong of the bytes, and bytes with the right tag have the errors of Parse.
func TestOpenErrors(t *testing.T) {
	key := []byte("key")
	for _, b := range [][]byte{nil, []byte("MIDS"), wantBytes(api.Image{}), append(smallBytes(), 0), smallBytes()[1:]} {
		unopened(t, sealed(b, []byte("other")), key, api.ErrTag)
		_, want := Parse(b)
		unopened(t, sealed(b, key), key, want)
	}
	unopened(t, smallBytes(), key, api.ErrTag)
	unopened(t, sealed(sealed(smallBytes(), key), key), key, api.ErrForm)
}

// P11.5: signed bytes that are changed in one bit, cut off, longer, or opened under another key, are refused.
func TestSignature(t *testing.T) {
	key := []byte("key")
	b := sealed(smallBytes(), key)
	for bit := range len(b) * 8 {
		wrong := bytes.Clone(b)
		wrong[bit/8] ^= 1 << (bit % 8)
		unopened(t, wrong, key, api.ErrTag)
	}
	for bit := range len(key) * 8 {
		wrong := bytes.Clone(key)
		wrong[bit/8] ^= 1 << (bit % 8)
		unopened(t, b, wrong, api.ErrTag)
	}
	for size := 32; size < len(b); size++ {
		unopened(t, b[:size], key, api.ErrTag)
		unopened(t, b[len(b)-size:], key, api.ErrTag)
	}
	unopened(t, append(bytes.Clone(b), 0), key, api.ErrTag)
	unopened(t, b, nil, api.ErrTag)
	unopened(t, b, b, api.ErrTag)
}

// P11.5: what Open takes of sealed bytes, spoiled or not, has codes that judge accepts, with the fuels that the image states.
func TestOpenedCodes(t *testing.T) {
	key := []byte("key")
	for seed := range 2000 {
		b := sealed(wantBytes(spoiled(seed)), key)
		m, e := Open(b, key)
		if e != api.OK {
			continue
		}
		step, e, _ := judge.Check(m.Step, m.Frame)
		if e != api.OK || step.Fuel != m.StepFuel {
			t.Errorf("the Step of %v: %v, %d", m, step, e)
		}
		move, e, _ := judge.Check(m.Move, api.Frame{Old: m.Elder, New: m.Frame.New})
		if e != api.OK || move.Fuel != m.MoveFuel {
			t.Errorf("the Move of %v: %v, %d", m, move, e)
		}
	}
}

// roomy is a copy within greater memory, which holds marks behind it.
func roomy[T any](l []T, mark T) []T {
	whole := slices.Repeat([]T{mark}, len(l)+40)
	copy(whole, l)
	return whole[:len(l)]
}

// untouched is whether a slice of roomy is as it was, its marks included.
func untouched[T comparable](got, l []T, mark T) bool {
	whole := got[:cap(got)]
	return slices.Equal(whole, append(slices.Clone(l), slices.Repeat([]T{mark}, len(whole)-len(l))...))
}

// spoil writes over a slice, its spare capacity included.
func spoil[T any](l []T, mark T) {
	l = l[:cap(l)]
	for i := range l {
		l[i] = mark
	}
}

// spoilImage writes over all slices of an image.
func spoilImage(m api.Image) {
	spoil(m.First, 77)
	spoil(m.Step, in(77, 77))
	spoil(m.Move, in(77, 77))
}

// R4: an image that is passed stays as it was, the spare capacity of its slices included, and is not shared with the bytes.
func TestImageStays(t *testing.T) {
	mark := in(99, 99)
	for seed := range 200 {
		for _, m := range []api.Image{some(seed), spoiled(seed)} {
			arg := m
			arg.First, arg.Step, arg.Move = roomy(m.First, 99), roomy(m.Step, mark), roomy(m.Move, mark)
			key := roomy([]byte("key"), 99)
			Check(arg)
			b, _ := Encode(arg)
			spoil(b, 77)
			b, _ = Sign(arg, key)
			spoil(b, 77)
			if !untouched(arg.First, m.First, 99) || !untouched(arg.Step, m.Step, mark) || !untouched(arg.Move, m.Move, mark) || !untouched(key, []byte("key"), 99) {
				t.Errorf("an argument was changed or is shared: %v", m)
			}
		}
	}
}

// R4: bytes that are passed stay as they were, and no image shares memory with them.
func TestBytesStay(t *testing.T) {
	for seed := range 200 {
		m := some(seed)
		b, key := wantBytes(m), []byte("key")
		for _, change := range []byte{0, 1} {
			b[len(b)-1] ^= change
			signed := sealed(b, key)
			arg, argSigned, argKey := roomy(b, 99), roomy(signed, 99), roomy(key, 99)
			got, _ := Parse(arg)
			spoilImage(got)
			got, _ = Open(argSigned, argKey)
			spoilImage(got)
			if !untouched(arg, b, 99) || !untouched(argSigned, signed, 99) || !untouched(argKey, key, 99) {
				t.Errorf("an argument was changed or is shared: %v", m)
			}
		}
	}
}

// R4: no two slices of one image share memory, their spare capacity included.
func TestSlicesOfOneImage(t *testing.T) {
	code := []api.Ins{in(api.InCell, 1), in(api.InKeep, 0)}
	m := changed(func(m *api.Image) { m.Step, m.Move, m.StepFuel, m.MoveFuel = code, code, 2, 2 })
	got, e := Parse(wantBytes(m))
	if e != api.OK {
		t.Fatal(e)
	}
	spoil(got.Step, in(77, 77))
	if !slices.Equal(got.Move, m.Move) || !slices.Equal(got.First, m.First) {
		t.Errorf("Step is shared: %v", got)
	}
	spoil(got.Move, in(78, 78))
	if !slices.Equal(got.First, m.First) || got.Step[0] != in(77, 77) {
		t.Errorf("Move is shared: %v", got)
	}
}

// R4 and R5: results are not kept: what is done to them, or to the arguments, is not seen in the next call or in the result.
func TestResultsAreNew(t *testing.T) {
	key := []byte("key")
	for range 2 {
		b, e := Encode(small())
		if !bytes.Equal(b, smallBytes()) || e != api.OK {
			t.Errorf("Encode = %x, %d", b, e)
		}
		m, e := Parse(b)
		spoil(b, 77)
		if !same(m, small()) || e != api.OK {
			t.Errorf("Parse = %v, %d", m, e)
		}
		spoilImage(m)
		b, e = Sign(small(), key)
		if !bytes.Equal(b, sealed(smallBytes(), key)) || e != api.OK {
			t.Errorf("Sign = %x, %d", b, e)
		}
		m, e = Open(b, key)
		spoil(b, 77)
		if !same(m, small()) || e != api.OK {
			t.Errorf("Open = %v, %d", m, e)
		}
		spoilImage(m)
	}
}

// R1: numbers and byte strings of any kind are answered without a panic.
func TestAnything(t *testing.T) {
	far := []int{math.MinInt, -1, 0, 1, 16, 17, 600, 65536, math.MaxInt}
	for k := range 9 * 9 * 9 {
		a, b, c := far[k%9], far[k/9%9], far[k/81]
		m := api.Image{Version: 9, From: 8, Elder: a, Frame: api.Frame{Slots: b, Old: c, New: c, Ins: a, Outs: b}, First: make([]int32, max(0, min(c, 20))), StepFuel: b, MoveFuel: c}
		checks(t, m, wantCheck(m))
	}
	for seed := range 3000 {
		d := newDice(seed)
		b := []byte("MIDS")
		for range d.pick(120) {
			b = append(b, byte(d.pick(256))>>d.pick(8))
		}
		for _, arg := range [][]byte{b, b[4:], sealed(b, nil)} {
			if m, e := Parse(arg); e != api.OK && !same(m, api.Image{}) {
				t.Errorf("Parse of %x = %v, %d", arg, m, e)
			}
			if m, e := Open(arg, nil); e != api.OK && !same(m, api.Image{}) {
				t.Errorf("Open of %x = %v, %d", arg, m, e)
			}
		}
	}
}
