package judge

import (
	"math"
	"slices"
	"testing"

	"midstream/api"
)

// rule is what the chapters say of one Op: the least and the greatest N and the error of another one, the values that it pops and pushes, and of which field of a frame N is a place.
type rule struct {
	op           int
	low, high    int64
	e            api.Errno
	pops, pushes int
	field        int
}

// The fields of a frame, in its order.
const (
	noField = iota - 1
	slots
	old
	news
	ins
	outs
)

var limits = [5]int{24, 16, 16, 8, 8}

var rules = []rule{
	{api.InPush, math.MinInt32, math.MaxInt32, api.OK, 0, 1, noField},
	{api.InLoad, 0, 255, api.ErrRange, 0, 1, slots},
	{api.InStore, 0, 255, api.ErrRange, 1, 0, slots},
	{api.InCell, 0, 255, api.ErrRange, 0, 1, old},
	{api.InKeep, 0, 255, api.ErrRange, 1, 0, news},
	{api.InIn, 0, 255, api.ErrRange, 0, 1, ins},
	{api.InOut, 0, 255, api.ErrRange, 1, 0, outs},
	{api.InUn, 1, 2, api.ErrOp, 1, 1, noField},
	{api.InBin, 1, 16, api.ErrOp, 2, 1, noField},
	{api.InJump, 0, 65535, api.ErrRange, 0, 0, noField},
	{api.InZero, 0, 65535, api.ErrRange, 1, 0, noField},
}

// widest is the largest frame.
var widest = frameOf(limits)

func frameOf(n [5]int) api.Frame {
	return api.Frame{Slots: n[slots], Old: n[old], New: n[news], Ins: n[ins], Outs: n[outs]}
}

func fieldsOf(f api.Frame) [5]int {
	return [5]int{f.Slots, f.Old, f.New, f.Ins, f.Outs}
}

// only is a frame in which one field is n, and all others are rest.
func only(field, n, rest int) api.Frame {
	all := [5]int{rest, rest, rest, rest, rest}
	all[field] = n
	return frameOf(all)
}

func in(op int, n int32) api.Ins { return api.Ins{Op: op, N: n} }

func push() api.Ins        { return in(api.InPush, 1) }
func drop() api.Ins        { return in(api.InZero, 0) }
func jump(n int32) api.Ins { return in(api.InJump, n) }
func zero(n int32) api.Ins { return in(api.InZero, n) }
func add() api.Ins         { return in(api.InBin, api.OpAdd) }
func neg() api.Ins         { return in(api.InUn, api.UnNeg) }

// times is an instruction n times.
func times(i api.Ins, n int) []api.Ins {
	return slices.Repeat([]api.Ins{i}, n)
}

// list is single instructions and pieces of code, one after the other.
func list(parts ...any) []api.Ins {
	var out []api.Ins
	for _, p := range parts {
		switch x := p.(type) {
		case api.Ins:
			out = append(out, x)
		case []api.Ins:
			out = append(out, x...)
		}
	}
	return out
}

func ruleOf(op int) (rule, bool) {
	at := slices.IndexFunc(rules, func(r rule) bool { return r.op == op })
	if at < 0 {
		return rule{}, false
	}
	return rules[at], true
}

// wantRight is the error that chapter 8 names for an instruction.
func wantRight(i api.Ins) api.Errno {
	r, ok := ruleOf(i.Op)
	if !ok {
		return api.ErrOp
	}
	if int64(i.N) < r.low || int64(i.N) > r.high {
		return r.e
	}
	return api.OK
}

// accesses is whether a frame has the place of an instruction, if it has one.
func accesses(i api.Ins, f api.Frame) bool {
	r, _ := ruleOf(i.Op)
	return r.field == noField || int(i.N) < fieldsOf(f)[r.field]
}

// passes is to which positions control can pass from the instruction at a position.
func passes(code []api.Ins, at int) []int {
	var out []int
	if code[at].Op != api.InJump {
		out = append(out, at+1)
	}
	if code[at].Op == api.InJump || code[at].Op == api.InZero {
		out = append(out, at+1+int(code[at].N))
	}
	return out
}

// sources is from which of the instructions before a position, and before a limit, control can pass to it.
func sources(code []api.Ins, to, limit int) []int {
	var out []int
	for at := range min(to, limit) {
		near, far := to == at+1, to == at+1+int(code[at].N)
		if near && code[at].Op != api.InJump || far && (code[at].Op == api.InJump || code[at].Op == api.InZero) {
			out = append(out, at)
		}
	}
	return out
}

// wantFault is the first error of the instruction at a position, in the chapter's order; after is the depth after each instruction before it.
func wantFault(code []api.Ins, f api.Frame, at int, after []int) (api.Errno, int) {
	i := code[at]
	if e := wantRight(i); e != api.OK {
		return e, 0
	}
	if !accesses(i, f) {
		return api.ErrRange, 0
	}
	depth := 0
	if at > 0 {
		from := sources(code, at, at)
		if len(from) == 0 {
			return api.ErrReach, 0
		}
		depth = after[from[0]]
	}
	r, _ := ruleOf(i.Op)
	if depth < r.pops || depth-r.pops+r.pushes > 16 {
		return api.ErrStack, 0
	}
	depth += r.pushes - r.pops
	for _, to := range passes(code, at) {
		if to > len(code) {
			return api.ErrJump, 0
		}
	}
	for _, to := range passes(code, at) {
		for _, from := range sources(code, to, at) {
			if after[from] != depth {
				return api.ErrStack, 0
			}
		}
	}
	return api.OK, depth
}

// wantCheck is the answer of Check in the chapter's words, for a valid frame.
func wantCheck(code []api.Ins, f api.Frame) (Report, api.Errno, int) {
	if len(code) > 600 {
		return Report{}, api.ErrBig, 0
	}
	var after []int
	for at := range code {
		e, depth := wantFault(code, f, at, after)
		if e != api.OK {
			return Report{}, e, at
		}
		after = append(after, depth)
	}
	if len(code) == 0 {
		return Report{}, api.OK, 0
	}
	if from := sources(code, len(code), len(code)); after[from[0]] != 0 {
		return Report{}, api.ErrStack, len(code)
	}
	return Report{Depth: max(0, slices.Max(after)), Fuel: lengths(code)[0]}, api.OK, 0
}

// lengths is the number of instructions on the longest path from each position to the end, found backwards.
func lengths(code []api.Ins) []int {
	out := make([]int, len(code)+1)
	for at := len(code) - 1; at >= 0; at-- {
		for _, to := range passes(code, at) {
			out[at] = max(out[at], 1+out[to])
		}
	}
	return out
}

// next is the number behind x in a fixed sequence.
func next(x uint32) uint32 {
	x ^= x << 13
	x ^= x >> 17
	return x ^ x<<5
}

// writer writes code as a compiler would, by a fixed sequence of numbers: each piece is accepted.
type writer struct {
	x     uint32
	frame api.Frame
	code  []api.Ins
}

func newWriter(seed int, f api.Frame) *writer {
	return &writer{x: 2463534242 + uint32(seed)*2654435761, frame: f}
}

// pick is a number below n.
func (w *writer) pick(n int) int {
	w.x = next(w.x)
	return int(w.x>>8) % n
}

func (w *writer) put(op, n int) {
	w.code = append(w.code, in(op, int32(n)))
}

// over puts a jump behind which a piece follows, and sets it to pass over the piece and some instructions more.
func (w *writer) over(op int, piece func(), more int) {
	at := len(w.code)
	w.put(op, 0)
	piece()
	w.code[at].N = int32(len(w.code) - at - 1 + more)
}

// place puts an access, if the frame has such a place, and another instruction otherwise.
func (w *writer) place(op, count, otherwise int) {
	if count == 0 {
		w.put(otherwise, 0)
		return
	}
	w.put(op, w.pick(count))
}

// value puts a piece that pushes one value.
func (w *writer) value(deep int) {
	if deep == 0 {
		w.leaf()
		return
	}
	switch w.pick(5) {
	case 0:
		w.value(deep - 1)
		w.put(api.InUn, 1+w.pick(2))
	case 1, 2:
		w.value(deep - 1)
		w.value(deep - 1)
		w.put(api.InBin, 1+w.pick(16))
	case 3:
		w.value(deep - 1)
		w.over(api.InZero, func() { w.value(deep - 1) }, 1)
		w.over(api.InJump, func() { w.value(deep - 1) }, 0)
	default:
		w.leaf()
	}
}

func (w *writer) leaf() {
	switch w.pick(4) {
	case 0:
		w.place(api.InLoad, w.frame.Slots, api.InPush)
	case 1:
		w.place(api.InCell, w.frame.Old, api.InPush)
	case 2:
		w.place(api.InIn, w.frame.Ins, api.InPush)
	default:
		w.put(api.InPush, w.pick(1000)-500)
	}
}

// line puts a piece that leaves the depth as it was.
func (w *writer) line(deep int) {
	switch w.pick(7) {
	case 0:
		w.value(deep)
		w.place(api.InStore, w.frame.Slots, api.InZero)
	case 1:
		w.value(deep)
		w.place(api.InKeep, w.frame.New, api.InZero)
	case 2:
		w.value(deep)
		w.place(api.InOut, w.frame.Outs, api.InZero)
	case 3:
		w.put(api.InJump, 0)
	case 4:
		w.value(deep)
		w.over(api.InZero, func() { w.lines(deep, 2) }, 0)
	default:
		w.value(deep)
		w.over(api.InZero, func() { w.lines(deep, 2) }, 1)
		w.over(api.InJump, func() { w.lines(deep, 3) }, 0)
	}
}

// lines puts fewer pieces than a count.
func (w *writer) lines(deep, count int) {
	if deep == 0 {
		return
	}
	for range w.pick(count) {
		w.line(deep - 1)
	}
}

// frames are frames of several sizes, the smallest and the largest among them.
func frames() []api.Frame {
	return []api.Frame{{}, widest, {Slots: 1, Old: 1, New: 2, Ins: 1, Outs: 1}, {Slots: 3, Outs: 1}, {Old: 2, New: 1, Ins: 3}, {New: 16, Ins: 8}}
}

// written is a code of at most 600 instructions that is accepted for a frame.
func written(seed int, f api.Frame) []api.Ins {
	w := newWriter(seed, f)
	count := 1 + w.pick(30)
	for range count {
		before := len(w.code)
		w.line(w.pick(5))
		if len(w.code) > 600 {
			w.code = w.code[:before]
		}
	}
	return w.code
}

// isChecked expects an answer of Check.
func isChecked(t *testing.T, code []api.Ins, f api.Frame, r Report, e api.Errno, at int) {
	t.Helper()
	if gotR, gotE, gotAt := Check(code, f); gotR != r || gotE != e || gotAt != at {
		t.Errorf("Check of %d instructions %v in %v = %v, %d, %d, want %v, %d, %d", len(code), code[:min(len(code), 20)], f, gotR, gotE, gotAt, r, e, at)
	}
}

// asTold expects the answer of the chapter's words, and tells whether the code is accepted.
func asTold(t *testing.T, code []api.Ins, f api.Frame) bool {
	t.Helper()
	r, e, at := wantCheck(code, f)
	isChecked(t, code, f, r, e, at)
	return e == api.OK
}

// P9.1: each field at -1, 0, its greatest value, one above and far away, beside other fields of 0 and of 8.
func TestFrameFields(t *testing.T) {
	for field, most := range limits {
		for _, rest := range []int{0, 8} {
			for n := range most + 1 {
				if got := Frame(only(field, n, rest)); got != api.OK {
					t.Errorf("field %d of %d: %d", field, n, got)
				}
			}
			for _, n := range []int{-1, -2, most + 1, most + 2, 255, 256, 1 << 32, 1<<32 + 1, -1 << 32, math.MaxInt, math.MinInt} {
				f := only(field, n, rest)
				if got := Frame(f); got != api.ErrArg {
					t.Errorf("field %d of %d: %d", field, n, got)
				}
				isChecked(t, nil, f, Report{}, api.ErrArg, 0)
			}
		}
	}
}

// P9.1: all fields together, each at -1, 0, its greatest value and one above: one wrong field is enough.
func TestFrameCombinations(t *testing.T) {
	for k := range 1024 {
		var n [5]int
		want, rest := api.OK, k
		for field, most := range limits {
			n[field] = []int{-1, 0, most, most + 1}[rest%4]
			if rest%4 == 0 || rest%4 == 3 {
				want = api.ErrArg
			}
			rest /= 4
		}
		if got := Frame(frameOf(n)); got != want {
			t.Errorf("Frame of %v = %d, want %d", n, got, want)
		}
		isChecked(t, nil, frameOf(n), Report{}, want, 0)
	}
}

// P9.2: a frame that is not valid counts before everything that is wrong of the code.
func TestCheckFrameFirst(t *testing.T) {
	for _, code := range [][]api.Ins{nil, {}, {{}}, times(jump(0), 600), times(jump(0), 601), times(api.Ins{}, 700), {push()}, {zero(9)}, {in(api.InLoad, 24)}} {
		for field, most := range limits {
			isChecked(t, code, only(field, -1, 0), Report{}, api.ErrArg, 0)
			isChecked(t, code, only(field, most+1, 8), Report{}, api.ErrArg, 0)
		}
	}
}

// P9.2: up to 600 instructions are accepted; more are ErrBig, whatever they are.
func TestCheckCounts(t *testing.T) {
	for _, count := range []int{0, 1, 2, 599, 600} {
		isChecked(t, times(jump(0), count), api.Frame{}, Report{Fuel: count}, api.OK, 0)
	}
	isChecked(t, nil, widest, Report{}, api.OK, 0)
	isChecked(t, []api.Ins{}, widest, Report{}, api.OK, 0)
	for _, count := range []int{601, 602, 1200, 70000} {
		for _, i := range []api.Ins{jump(0), {}, push(), drop(), jump(65535), in(api.InLoad, 0), in(api.InBin, 0)} {
			isChecked(t, times(i, count), api.Frame{}, Report{}, api.ErrBig, 0)
		}
	}
	full := times(jump(0), 600)
	full[599] = push()
	isChecked(t, full, api.Frame{}, Report{}, api.ErrStack, 600)
	full[599] = api.Ins{}
	isChecked(t, full, api.Frame{}, Report{}, api.ErrOp, 599)
}

// P9.2: the examples.
func TestCheckExamples(t *testing.T) {
	f := api.Frame{Ins: 1, Outs: 1}
	isChecked(t, list(in(api.InIn, 0), zero(2), in(api.InPush, 7), in(api.InOut, 0)), f, Report{Depth: 1, Fuel: 4}, api.OK, 0)
	isChecked(t, list(push()), f, Report{}, api.ErrStack, 1)
	isChecked(t, list(jump(1), push()), f, Report{}, api.ErrReach, 1)
	isChecked(t, list(push(), zero(5)), f, Report{}, api.ErrJump, 1)
	isChecked(t, list(in(api.InOut, 0)), f, Report{}, api.ErrStack, 0)
}

// P9.2: instructions that are not valid give the error of isa.Right, at the position of the first one.
func TestCheckRight(t *testing.T) {
	wrong := []api.Ins{
		{}, {Op: 12}, {Op: -1}, {Op: 256 + api.InPush}, {Op: 1<<32 + api.InJump}, {Op: math.MaxInt}, {Op: math.MinInt},
		in(api.InUn, 0), in(api.InUn, 3), in(api.InUn, -1), in(api.InBin, 0), in(api.InBin, 17), in(api.InBin, 257),
		jump(-1), jump(65536), zero(-1), zero(65536), jump(math.MinInt32), zero(math.MaxInt32),
		in(api.InLoad, -1), in(api.InStore, 256), in(api.InCell, -1), in(api.InKeep, 256), in(api.InIn, -1), in(api.InOut, math.MinInt32),
	}
	for _, i := range wrong {
		for _, before := range [][]api.Ins{nil, {push(), push()}, {push(), push(), drop(), drop(), jump(0)}} {
			isChecked(t, list(before, i), widest, Report{}, wantRight(i), len(before))
			isChecked(t, list(before, i, api.Ins{}, add(), jump(9)), widest, Report{}, wantRight(i), len(before))
		}
	}
}

// surrounded is a code in which an instruction stands at a depth that suits it, and the position at which it stands.
func surrounded(i api.Ins) ([]api.Ins, int) {
	r, _ := ruleOf(i.Op)
	return list(times(push(), r.pops), i, times(drop(), r.pushes)), r.pops
}

// P9.2: each access just inside and just outside of frames of each size, and the greatest N.
func TestCheckAccess(t *testing.T) {
	for _, r := range rules {
		if r.field == noField {
			continue
		}
		for count := range limits[r.field] + 1 {
			for _, rest := range []int{0, 8} {
				f := only(r.field, count, rest)
				for n := range count {
					code, _ := surrounded(in(r.op, int32(n)))
					isChecked(t, code, f, Report{Depth: 1, Fuel: 2}, api.OK, 0)
				}
				for _, n := range []int{count, count + 1, 24, 254, 255, 256, math.MaxInt32} {
					code, at := surrounded(in(r.op, int32(n)))
					isChecked(t, code, f, Report{}, api.ErrRange, at)
				}
			}
		}
	}
}

// P9.2: each Op asks its own field of the frame alone: InCell the old cells, InKeep the new ones.
func TestCheckAccessOwnField(t *testing.T) {
	for _, r := range rules {
		if r.field == noField {
			continue
		}
		code, at := surrounded(in(r.op, 3))
		for field := range limits {
			want := Report{Depth: 1, Fuel: 2}
			if field == r.field {
				isChecked(t, code, only(field, 4, 0), want, api.OK, 0)
				isChecked(t, code, only(field, 3, 8), Report{}, api.ErrRange, at)
			} else {
				isChecked(t, code, only(field, 8, 0), Report{}, api.ErrRange, at)
				isChecked(t, code, only(field, 0, 4), want, api.OK, 0)
			}
		}
	}
	cell, keep := list(in(api.InCell, 1), drop()), list(push(), in(api.InKeep, 1))
	isChecked(t, cell, api.Frame{Old: 2, New: 1}, Report{Depth: 1, Fuel: 2}, api.OK, 0)
	isChecked(t, cell, api.Frame{Old: 1, New: 2}, Report{}, api.ErrRange, 0)
	isChecked(t, keep, api.Frame{Old: 1, New: 2}, Report{Depth: 1, Fuel: 2}, api.OK, 0)
	isChecked(t, keep, api.Frame{Old: 2, New: 1}, Report{}, api.ErrRange, 1)
}

// P9.2: N of an instruction that accesses nothing is no place: any frame does.
func TestCheckAccessNothing(t *testing.T) {
	for _, n := range []int32{math.MinInt32, -1, 0, 24, 255, 256, math.MaxInt32} {
		isChecked(t, list(in(api.InPush, n), drop()), api.Frame{}, Report{Depth: 1, Fuel: 2}, api.OK, 0)
	}
	for n := int32(api.OpAdd); n <= api.OpGe; n++ {
		isChecked(t, list(push(), push(), in(api.InBin, n), drop()), api.Frame{}, Report{Depth: 2, Fuel: 4}, api.OK, 0)
	}
	for n := int32(api.UnNeg); n <= api.UnNot; n++ {
		isChecked(t, list(push(), in(api.InUn, n), drop()), api.Frame{}, Report{Depth: 1, Fuel: 3}, api.OK, 0)
	}
	isChecked(t, list(jump(30), times(jump(0), 30)), api.Frame{}, Report{}, api.ErrReach, 1)
}

// P9.2: each Op at each depth: the stack effects, with too few values and with too many.
func TestCheckDepths(t *testing.T) {
	for _, r := range rules {
		i := in(r.op, 1)
		if r.op == api.InJump || r.op == api.InZero {
			i.N = 0
		}
		for depth := range 17 {
			before := times(push(), depth)
			after := depth - r.pops + r.pushes
			code := list(before, i, times(drop(), max(after, 0)))
			if depth < r.pops || after > 16 {
				isChecked(t, code, widest, Report{}, api.ErrStack, depth)
				continue
			}
			isChecked(t, code, widest, Report{Depth: max(depth, after), Fuel: len(code)}, api.OK, 0)
			// One value more or fewer than the instruction leaves shows at the end.
			isChecked(t, list(code, push()), widest, Report{}, api.ErrStack, len(code)+1)
			isChecked(t, list(code, drop()), widest, Report{}, api.ErrStack, len(code))
			if after > 0 {
				isChecked(t, code[:len(code)-1], widest, Report{}, api.ErrStack, len(code)-1)
			}
		}
	}
	isChecked(t, list(times(push(), 17), times(drop(), 17)), widest, Report{}, api.ErrStack, 16)
	isChecked(t, list(push(), add(), drop()), widest, Report{}, api.ErrStack, 1)
	isChecked(t, list(add()), widest, Report{}, api.ErrStack, 0)
}

// P9.2: InJump of 0, to the end, one behind it and far behind it.
func TestCheckJumps(t *testing.T) {
	isChecked(t, list(jump(0)), api.Frame{}, Report{Fuel: 1}, api.OK, 0)
	isChecked(t, list(jump(0), push(), drop()), api.Frame{}, Report{Depth: 1, Fuel: 3}, api.OK, 0)
	for _, n := range []int32{1, 2, 3, 599, 600, 65534, 65535} {
		isChecked(t, list(jump(n)), api.Frame{}, Report{}, api.ErrJump, 0)
		isChecked(t, list(push(), drop(), jump(n)), api.Frame{}, Report{}, api.ErrJump, 2)
		isChecked(t, list(times(jump(0), 599), jump(n)), api.Frame{}, Report{}, api.ErrJump, 599)
	}
	// Both branches jump to the end, and one of them one behind it.
	branches := list(push(), zero(1), jump(2), jump(1), jump(0))
	isChecked(t, branches, api.Frame{}, Report{}, api.ErrReach, 4)
	isChecked(t, branches[:4], api.Frame{}, Report{}, api.ErrJump, 2)
	branches[2].N = 1
	isChecked(t, branches[:4], api.Frame{}, Report{}, api.ErrJump, 3)
	branches[3].N = 0
	isChecked(t, branches[:4], api.Frame{}, Report{Depth: 1, Fuel: 3}, api.OK, 0)
}

// P9.2: InZero of 0, to the end, one behind it and far behind it.
func TestCheckZeros(t *testing.T) {
	for count := range 598 {
		rest := times(jump(0), count)
		want := Report{Depth: 1, Fuel: count + 2}
		isChecked(t, list(push(), zero(0), rest), api.Frame{}, want, api.OK, 0)
		isChecked(t, list(push(), zero(int32(count)), rest), api.Frame{}, want, api.OK, 0)
		for _, n := range []int32{int32(count) + 1, int32(count) + 2, 600, 65535} {
			isChecked(t, list(push(), zero(n), rest), api.Frame{}, Report{}, api.ErrJump, 1)
		}
	}
	full := list(push(), zero(598), times(jump(0), 598))
	isChecked(t, full, api.Frame{}, Report{Depth: 1, Fuel: 600}, api.OK, 0)
	full[1].N = 599
	isChecked(t, full, api.Frame{}, Report{}, api.ErrJump, 1)
}

// P9.2: the first instruction to which control cannot pass is ErrReach; those behind it may be reached again.
func TestCheckReach(t *testing.T) {
	for skipped := 1; skipped < 20; skipped++ {
		for _, i := range []api.Ins{push(), drop(), add(), neg(), jump(0), jump(1), zero(0), jump(99), in(api.InLoad, 0)} {
			isChecked(t, list(jump(int32(skipped)), times(i, skipped), jump(0)), widest, Report{}, api.ErrReach, 1)
			isChecked(t, list(push(), drop(), jump(int32(skipped)), times(i, skipped)), widest, Report{}, api.ErrReach, 3)
		}
	}
	// Behind InJump an instruction is reached from an earlier one alone.
	isChecked(t, list(push(), zero(1), jump(1), jump(0)), widest, Report{Depth: 1, Fuel: 3}, api.OK, 0)
	isChecked(t, list(push(), zero(0), jump(1), jump(0)), widest, Report{}, api.ErrReach, 3)
	isChecked(t, list(push(), zero(2), jump(1), jump(0)), widest, Report{}, api.ErrReach, 3)
	isChecked(t, list(push(), zero(2), jump(2), jump(0), jump(0)), widest, Report{}, api.ErrReach, 3)
	// An InZero passes control on both ways, whatever its value is.
	isChecked(t, list(in(api.InPush, 0), zero(1), jump(0)), widest, Report{Depth: 1, Fuel: 3}, api.OK, 0)
	isChecked(t, list(in(api.InPush, 1), zero(1), jump(0)), widest, Report{Depth: 1, Fuel: 3}, api.OK, 0)
}

// P9.2: a position to which control passes from two or more instructions, with the same depth and with other ones.
func TestCheckMeetings(t *testing.T) {
	value := list(push(), zero(2), push(), jump(1), push())
	isChecked(t, list(value, drop()), api.Frame{}, Report{Depth: 1, Fuel: 5}, api.OK, 0)
	for depth := range 15 {
		code := list(times(push(), depth), value, times(drop(), depth+1))
		isChecked(t, code, api.Frame{}, Report{Depth: depth + 1, Fuel: depth + 4 + depth + 1}, api.OK, 0)
	}
	// The second branch leaves one value less, one more, two more; the later instruction is the wrong one.
	isChecked(t, list(push(), zero(2), push(), jump(1), jump(0), drop()), api.Frame{}, Report{}, api.ErrStack, 4)
	isChecked(t, list(push(), zero(2), push(), jump(2), push(), push(), drop()), api.Frame{}, Report{}, api.ErrStack, 5)
	isChecked(t, list(push(), zero(1), push(), push()), api.Frame{}, Report{}, api.ErrStack, 2)
	isChecked(t, list(push(), push(), zero(1), drop(), drop()), api.Frame{}, Report{}, api.ErrStack, 3)
	// They meet at the end: not the depth there, but the instruction that differs is told.
	isChecked(t, list(push(), zero(1), push()), api.Frame{}, Report{}, api.ErrStack, 2)
	isChecked(t, list(push(), push(), zero(1), drop()), api.Frame{}, Report{}, api.ErrStack, 3)
	isChecked(t, list(push(), push(), zero(1), jump(0)), api.Frame{}, Report{}, api.ErrStack, 4)
	// An InZero meets earlier instructions at its far target, and at its near one.
	isChecked(t, list(push(), push(), push(), zero(2), zero(1), jump(0), drop()), api.Frame{}, Report{}, api.ErrStack, 4)
	isChecked(t, list(push(), push(), zero(1), zero(0), drop()), api.Frame{}, Report{}, api.ErrStack, 3)
}

// P9.2: three and more instructions pass control to one position; the first one that differs is told.
func TestCheckManyMeetings(t *testing.T) {
	for count := 1; count < 100; count++ {
		var code []api.Ins
		for k := range count {
			code = append(code, push(), zero(int32(2*(count-k-1))))
		}
		isChecked(t, code, api.Frame{}, Report{Depth: 1, Fuel: 2 * count}, api.OK, 0)
		// A value that one pair leaves on the stack shows at the jump of the pair behind it.
		for k := 2; k < count; k++ {
			wrong := slices.Clone(code)
			wrong[2*k-1] = neg()
			isChecked(t, wrong, api.Frame{}, Report{}, api.ErrStack, 2*k+1)
		}
		// If the first pair leaves it, all jumps agree, and only the end tells.
		code[1] = neg()
		isChecked(t, code, api.Frame{}, Report{}, api.ErrStack, len(code))
	}
}

// P9.2: a depth at the end that is not 0 is ErrStack at n, however control comes there.
func TestCheckEnd(t *testing.T) {
	for depth := 1; depth <= 16; depth++ {
		code := times(push(), depth)
		isChecked(t, code, api.Frame{}, Report{}, api.ErrStack, depth)
		isChecked(t, list(code, jump(0)), api.Frame{}, Report{}, api.ErrStack, depth+1)
		if depth > 1 {
			isChecked(t, list(code, drop()), api.Frame{}, Report{}, api.ErrStack, depth+1)
			isChecked(t, list(code, zero(2), jump(0), jump(0)), api.Frame{}, Report{}, api.ErrStack, depth+3)
		}
	}
}

// P9.2: where an instruction has several faults, the one that the chapter lists first is told.
func TestCheckOrderWithin(t *testing.T) {
	f := api.Frame{Slots: 1, Outs: 1}
	for _, c := range []struct {
		code []api.Ins
		e    api.Errno
		at   int
	}{
		// An instruction that is not valid cannot be reached either.
		{list(jump(1), in(api.InBin, 99)), api.ErrOp, 1},
		{list(jump(1), api.Ins{}), api.ErrOp, 1},
		{list(jump(1), jump(-1)), api.ErrRange, 1},
		// N has a wrong range before the frame and the stack are asked.
		{list(in(api.InUn, 0)), api.ErrOp, 0},
		{list(in(api.InBin, 17)), api.ErrOp, 0},
		{list(zero(65536)), api.ErrRange, 0},
		// A place outside cannot be reached, finds no value, or meets a full stack.
		{list(jump(1), in(api.InLoad, 1)), api.ErrRange, 1},
		{list(jump(1), in(api.InOut, 1)), api.ErrRange, 1},
		{list(in(api.InStore, 1)), api.ErrRange, 0},
		{list(in(api.InOut, 1)), api.ErrRange, 0},
		{list(times(push(), 16), in(api.InLoad, 1)), api.ErrRange, 16},
		{list(times(push(), 16), in(api.InLoad, 0)), api.ErrStack, 16},
		// What is not reached has no depth, and jumps behind the end.
		{list(jump(1), in(api.InOut, 0)), api.ErrReach, 1},
		{list(jump(1), add()), api.ErrReach, 1},
		{list(jump(1), zero(9)), api.ErrReach, 1},
		{list(jump(1), jump(9)), api.ErrReach, 1},
		{list(times(push(), 16), jump(1), push()), api.ErrReach, 17},
		// Without a value an InZero does not jump.
		{list(zero(9)), api.ErrStack, 0},
		{list(push(), drop(), zero(65535)), api.ErrStack, 2},
		// A jump behind the end, and another depth at the near target.
		{list(push(), push(), zero(1), zero(9), drop()), api.ErrJump, 3},
		{list(push(), push(), zero(1), zero(2), drop()), api.ErrJump, 3},
		{list(push(), push(), zero(1), zero(1), drop()), api.ErrStack, 3},
		// Too many values, and another depth at the next position.
		{list(times(push(), 16), zero(2), push(), push(), drop()), api.ErrStack, 18},
	} {
		isChecked(t, c.code, f, Report{}, c.e, c.at)
	}
}

// P9.2: of several wrong instructions the first one is told, not the error that the chapter lists first.
func TestCheckOrderBetween(t *testing.T) {
	f := api.Frame{Slots: 1}
	faults := []struct {
		code []api.Ins
		e    api.Errno
		at   int
	}{
		{list(api.Ins{}), api.ErrOp, 0},
		{list(in(api.InLoad, 1)), api.ErrRange, 0},
		{list(jump(1), push()), api.ErrReach, 1},
		{list(add()), api.ErrStack, 0},
		{list(times(push(), 17)), api.ErrStack, 16},
		{list(jump(5000)), api.ErrJump, 0},
		{list(push(), zero(5000)), api.ErrJump, 1},
		{list(push(), zero(1), push(), drop()), api.ErrStack, 2},
	}
	for _, first := range faults {
		isChecked(t, first.code, f, Report{}, first.e, first.at)
		for _, second := range faults {
			code := list(push(), drop(), first.code, second.code)
			isChecked(t, code, f, Report{}, first.e, first.at+2)
			isChecked(t, list(code, push()), f, Report{}, first.e, first.at+2)
		}
	}
}

// P9.2: Depth and Fuel of codes without jumps.
func TestReportStraight(t *testing.T) {
	for _, c := range []struct {
		code []api.Ins
		want Report
	}{
		{nil, Report{}},
		{list(push(), drop()), Report{1, 2}},
		{list(push(), push(), add(), in(api.InKeep, 1)), Report{2, 4}},
		{list(push(), push(), push(), add(), add(), in(api.InStore, 0)), Report{3, 6}},
		{list(push(), push(), add(), push(), add(), in(api.InOut, 0)), Report{2, 6}},
		{list(in(api.InIn, 0), neg(), neg(), in(api.InOut, 0)), Report{1, 4}},
		{list(times(push(), 5), times(drop(), 5), times(push(), 3), times(drop(), 3)), Report{5, 16}},
		{list(times(push(), 3), times(drop(), 3), times(push(), 5), times(drop(), 5)), Report{5, 16}},
		{list(times(push(), 16), times(add(), 15), drop()), Report{16, 32}},
	} {
		isChecked(t, c.code, widest, c.want, api.OK, 0)
	}
}

// P9.2: Depth and Fuel of codes with jumps, in which the longest path is the first one, the second one, or one in between.
func TestReportPaths(t *testing.T) {
	deep := list(push(), push(), push(), add(), add(), drop())
	for _, c := range []struct {
		code []api.Ins
		want Report
	}{
		// The longest path goes straight on.
		{list(push(), zero(2), push(), drop()), Report{1, 4}},
		{list(push(), zero(3), push(), drop(), jump(1), jump(0)), Report{1, 5}},
		// It goes through the jump: the straight one leaves early.
		{list(push(), zero(1), jump(3), push(), drop(), jump(0)), Report{1, 5}},
		{list(push(), zero(1), jump(6), deep), Report{3, 8}},
		// The paths meet; the one that arrives first is the longer one, then the one that arrives last.
		{list(push(), zero(3), push(), drop(), jump(1), jump(0), jump(0)), Report{1, 6}},
		{list(push(), zero(1), jump(3), push(), drop(), jump(0), jump(0), jump(0)), Report{1, 7}},
		// The greatest depth is on the shorter path.
		{list(push(), zero(7), deep, jump(8), times(jump(0), 8)), Report{3, 10}},
		{list(push(), zero(9), times(jump(0), 8), jump(6), deep), Report{3, 11}},
		// Of three branches the one in between is the longest.
		{list(push(), zero(2), jump(0), jump(7), push(), zero(4), jump(0), jump(0), jump(0), jump(1), jump(0)), Report{1, 8}},
		// Two choices, one after the other: the longest path takes one way and then the other.
		{list(push(), zero(2), jump(0), jump(1), jump(0), push(), zero(1), jump(2), jump(0), jump(0)), Report{1, 8}},
		// One within the other.
		{list(push(), zero(5), push(), zero(1), jump(2), jump(0), jump(0), jump(0)), Report{1, 7}},
	} {
		isChecked(t, c.code, widest, c.want, api.OK, 0)
		asTold(t, c.code, widest)
	}
}

// R1: a code with more paths than could be walked one by one is checked all the same.
func TestReportManyPaths(t *testing.T) {
	var equal, unequal []api.Ins
	for range 120 {
		equal = append(equal, push(), zero(2), jump(0), jump(1), jump(0))
		unequal = append(unequal, push(), zero(1), jump(0), push(), drop())
	}
	isChecked(t, equal, api.Frame{}, Report{Depth: 1, Fuel: 480}, api.OK, 0)
	isChecked(t, unequal, api.Frame{}, Report{Depth: 1, Fuel: 600}, api.OK, 0)
}

// each calls f with every code of up to a length over some instructions.
func each(most int, alphabet []api.Ins, f func(code []api.Ins)) {
	var grow func(code []api.Ins)
	grow = func(code []api.Ins) {
		f(code)
		if len(code) == most {
			return
		}
		for _, i := range alphabet {
			grow(append(code[:len(code):len(code)], i))
		}
	}
	grow(nil)
}

// P9.2: every short code over instructions of all kinds, by the chapter's words.
func TestCheckEveryShortCode(t *testing.T) {
	f := api.Frame{Slots: 1, Outs: 1}
	accepted := 0
	each(5, []api.Ins{push(), in(api.InStore, 0), add(), neg(), jump(0), jump(1), jump(2), zero(0), zero(1), zero(2), in(api.InLoad, 1), {}}, func(code []api.Ins) {
		if asTold(t, code, f) {
			accepted++
		}
	})
	if accepted < 200 {
		t.Errorf("only %d codes are accepted", accepted)
	}
}

// P9.2: every longer code over the instructions that branch and meet, by the chapter's words.
func TestCheckEveryBranchingCode(t *testing.T) {
	each(7, []api.Ins{push(), drop(), jump(1), jump(2), zero(1), zero(3)}, func(code []api.Ins) {
		asTold(t, code, api.Frame{})
	})
}

// P9.2: every short code at the greatest depths, by the chapter's words.
func TestCheckEveryDeepCode(t *testing.T) {
	accepted := 0
	each(5, []api.Ins{push(), drop(), add(), neg(), jump(1), zero(1), zero(2)}, func(code []api.Ins) {
		for _, depth := range []int{14, 15, 16} {
			if asTold(t, list(times(push(), depth), code, times(drop(), depth)), api.Frame{}) {
				accepted++
			}
		}
	})
	if accepted < 200 {
		t.Errorf("only %d codes are accepted", accepted)
	}
}

// P9.2: long codes that a compiler could write are accepted, with the Report of the chapter's words.
func TestCheckWritten(t *testing.T) {
	most, deepest := 0, 0
	for _, f := range frames() {
		for seed := range 300 {
			code := written(seed, f)
			if !asTold(t, code, f) {
				t.Errorf("seed %d in %v is not accepted", seed, f)
			}
			r, _, _ := Check(code, f)
			most, deepest = max(most, len(code)), max(deepest, r.Depth)
		}
	}
	if most < 300 || deepest < 5 {
		t.Errorf("the codes have at most %d instructions and the depth %d", most, deepest)
	}
}

// spoiled is a code in which one instruction is another one, or missing, or there twice.
func spoiled(code []api.Ins, seed int) []api.Ins {
	w := newWriter(seed, api.Frame{})
	at := w.pick(len(code))
	out := slices.Clone(code)
	switch w.pick(4) {
	case 0:
		return slices.Delete(out, at, at+1)
	case 1:
		return slices.Insert(out, at, out[at])
	case 2:
		out[at].N += int32(w.pick(7) - 3)
	default:
		out[at] = in(w.pick(13), int32(w.pick(30)))
	}
	return out
}

// P9.2: long codes with one wrong instruction, by the chapter's words; each error is among their answers.
func TestCheckSpoiled(t *testing.T) {
	seen := map[api.Errno]int{}
	for _, f := range frames() {
		for seed := range 200 {
			code := written(seed, f)
			if len(code) == 0 {
				continue
			}
			for k := range 6 {
				wrong := spoiled(code, 1000*seed+k)
				asTold(t, wrong, f)
				_, e, _ := Check(wrong, f)
				seen[e]++
			}
		}
	}
	for _, e := range []api.Errno{api.OK, api.ErrOp, api.ErrRange, api.ErrReach, api.ErrStack, api.ErrJump} {
		if seen[e] < 20 {
			t.Errorf("the error %d is told %d times only", e, seen[e])
		}
	}
}

// path runs a code without values: at each InZero a choice is taken. It tells the greatest depth, the number of steps, and whether all was within the frame and the stack and ended at the end with an empty stack.
func path(code []api.Ins, f api.Frame, choose func(at int) bool) (deepest, steps int, fine bool) {
	depth, at := 0, 0
	for at < len(code) {
		i := code[at]
		r, _ := ruleOf(i.Op)
		if !accesses(i, f) || depth < r.pops {
			return 0, 0, false
		}
		depth += r.pushes - r.pops
		deepest = max(deepest, depth)
		if i.Op == api.InJump || i.Op == api.InZero && choose(at) {
			at += int(i.N)
		}
		at++
		steps++
	}
	return deepest, steps, at == len(code) && depth == 0
}

// P9.3: all paths through every short code that is accepted stay within the Report, and some path reaches each of its numbers.
func TestEveryPath(t *testing.T) {
	f := api.Frame{Slots: 1}
	each(7, []api.Ins{push(), in(api.InStore, 0), jump(0), jump(1), zero(1), zero(2)}, func(code []api.Ins) {
		want, e, _ := Check(code, f)
		if e != api.OK {
			return
		}
		var got Report
		for choices := range 1 << len(code) {
			deepest, steps, fine := path(code, f, func(at int) bool { return choices>>at&1 == 1 })
			if !fine {
				t.Errorf("%v: the path %b leaves the frame or the stack", code, choices)
			}
			got.Depth, got.Fuel = max(got.Depth, deepest), max(got.Fuel, steps)
		}
		if got != want || got.Fuel > len(code) {
			t.Errorf("%v: the paths have %v, the Report says %v", code, got, want)
		}
	})
}

// P9.3: many paths through long codes stay within the Report and the frame, and the longest one takes Fuel steps.
func TestLongPaths(t *testing.T) {
	for _, f := range frames() {
		for seed := range 200 {
			code := written(seed, f)
			r, e, _ := Check(code, f)
			if e != api.OK || r.Fuel > len(code) || r.Depth > 16 {
				t.Errorf("seed %d: %v, %d for %d instructions", seed, r, e, len(code))
			}
			w := newWriter(seed, f)
			for range 50 {
				deepest, steps, fine := path(code, f, func(int) bool { return w.pick(2) == 0 })
				if !fine || deepest > r.Depth || steps > r.Fuel {
					t.Errorf("seed %d: a path has %d, %d, %v, the Report says %v", seed, deepest, steps, fine, r)
				}
			}
			left := lengths(code)
			_, steps, fine := path(code, f, func(at int) bool { return left[at+1+int(code[at].N)] > left[at+1] })
			if !fine || steps != r.Fuel {
				t.Errorf("seed %d: the longest path has %d steps, %v, the Report says %v", seed, steps, fine, r)
			}
		}
	}
}

// P9.3: two accepted codes one behind the other are accepted: the greater Depth, the sum of the Fuel; more than 600 instructions are too many.
func TestConcatenation(t *testing.T) {
	joined, refused := 0, 0
	for _, f := range frames() {
		for seed := range 400 {
			a, b := written(seed, f), written(seed+1, f)
			ra, _, _ := Check(a, f)
			rb, _, _ := Check(b, f)
			if len(a)+len(b) > 600 {
				isChecked(t, list(a, b), f, Report{}, api.ErrBig, 0)
				refused++
				continue
			}
			want := Report{Depth: max(ra.Depth, rb.Depth), Fuel: ra.Fuel + rb.Fuel}
			isChecked(t, list(a, b), f, want, api.OK, 0)
			isChecked(t, list(b, a), f, want, api.OK, 0)
			joined++
		}
	}
	if joined < 100 || refused < 10 {
		t.Errorf("%d pairs are joined, %d are too long", joined, refused)
	}
}

// P9.3: every pair of short accepted codes can be joined, also those that jump to their end.
func TestConcatenationOfShort(t *testing.T) {
	var all [][]api.Ins
	each(4, []api.Ins{push(), drop(), add(), jump(0), jump(1), zero(1), zero(2)}, func(code []api.Ins) {
		if _, e, _ := Check(code, api.Frame{}); e == api.OK {
			all = append(all, code)
		}
	})
	for _, a := range all {
		ra, _, _ := Check(a, api.Frame{})
		for _, b := range all {
			rb, _, _ := Check(b, api.Frame{})
			isChecked(t, list(a, b), api.Frame{}, Report{Depth: max(ra.Depth, rb.Depth), Fuel: ra.Fuel + rb.Fuel}, api.OK, 0)
		}
	}
}

// P9.3: two codes of 600 instructions together are accepted, of 601 they are not.
func TestConcatenationLimit(t *testing.T) {
	for _, size := range []int{0, 1, 2, 300, 599, 600} {
		a, b := times(jump(0), size), times(jump(0), 600-size)
		isChecked(t, list(a, b), api.Frame{}, Report{Fuel: 600}, api.OK, 0)
		isChecked(t, list(a, b, jump(0)), api.Frame{}, Report{}, api.ErrBig, 0)
	}
}

// P9.3: a code that is accepted for a frame is accepted for each larger one, with the same Report.
func TestLargerFrames(t *testing.T) {
	for _, f := range frames() {
		for seed := range 60 {
			code := written(seed, f)
			want, e, _ := Check(code, f)
			if e != api.OK {
				t.Errorf("seed %d in %v: %d", seed, f, e)
			}
			isChecked(t, code, widest, want, api.OK, 0)
			for field, most := range limits {
				n := fieldsOf(f)
				for n[field] < most {
					n[field]++
					isChecked(t, code, frameOf(n), want, api.OK, 0)
				}
			}
		}
	}
}

// R4: the instructions stay as they were, their spare capacity included, with and without an error.
func TestArgumentsStay(t *testing.T) {
	mark := api.Ins{Op: 77, N: 77}
	for _, code := range [][]api.Ins{
		nil, {push(), drop()}, {push()}, {{}}, {jump(1), push()}, {zero(5)}, {jump(5)}, {in(api.InLoad, 99)},
		times(jump(0), 600), times(jump(0), 601), written(1, widest), written(2, widest), list(push(), push(), zero(1), zero(0), drop()),
	} {
		whole := list(code, times(mark, 40))
		want := slices.Clone(whole)
		Check(whole[:len(code)], widest)
		Check(whole[:len(code)], api.Frame{Slots: -1})
		if !slices.Equal(whole, want) {
			t.Errorf("Check changed %v", code)
		}
	}
}

// R4: the spare capacity behind a code is not read: instructions there are no targets.
func TestSpareIsNotCode(t *testing.T) {
	whole := list(push(), zero(1), jump(0), jump(0))
	isChecked(t, whole[:2], api.Frame{}, Report{}, api.ErrJump, 1)
	isChecked(t, whole[:3], api.Frame{}, Report{Depth: 1, Fuel: 3}, api.OK, 0)
	isChecked(t, list(jump(1), push())[:1], api.Frame{}, Report{}, api.ErrJump, 0)
}

// R5: an answer does not hang on the calls before it.
func TestSameAnswers(t *testing.T) {
	for seed := range 50 {
		code := written(seed, widest)
		r, e, at := Check(code, widest)
		Check(list(api.Ins{}), widest)
		Check(times(push(), 20), widest)
		isChecked(t, slices.Clone(code), widest, r, e, at)
	}
}
