package vm

import (
	"math"
	"slices"
	"testing"

	"midstream/api"
	"midstream/judge"
)

// rule is what the chapters say of one Op: the least and the greatest N and the error of another one, the values that it pops and pushes, and of which field of a frame N is a place.
type rule struct {
	op           int
	low, high    int64
	e            api.Errno
	pops, pushes int
	field        int
}

// The fields of a frame, in its order.
const (
	noField = iota - 1
	slots
	olds
	news
	ins
	outs
)

var limits = [5]int{24, 16, 16, 8, 8}

var rules = []rule{
	{api.InPush, math.MinInt32, math.MaxInt32, api.OK, 0, 1, noField},
	{api.InLoad, 0, 255, api.ErrRange, 0, 1, slots},
	{api.InStore, 0, 255, api.ErrRange, 1, 0, slots},
	{api.InCell, 0, 255, api.ErrRange, 0, 1, olds},
	{api.InKeep, 0, 255, api.ErrRange, 1, 0, news},
	{api.InIn, 0, 255, api.ErrRange, 0, 1, ins},
	{api.InOut, 0, 255, api.ErrRange, 1, 0, outs},
	{api.InUn, 1, 2, api.ErrOp, 1, 1, noField},
	{api.InBin, 1, 16, api.ErrOp, 2, 1, noField},
	{api.InJump, 0, 65535, api.ErrRange, 0, 0, noField},
	{api.InZero, 0, 65535, api.ErrRange, 1, 0, noField},
}

// widest is the largest frame.
var widest = frameOf(limits)

// plenty is more fuel than any code takes.
const plenty = 1000

// edges are values of all magnitudes.
var edges = []int32{0, 1, -1, 2, -2, 7, -7, 31, 32, 33, -31, 255, 256, 46341, -46341, 65535, 65536, 1 << 30, math.MaxInt32, math.MaxInt32 - 1, math.MinInt32, math.MinInt32 + 1}

func frameOf(n [5]int) api.Frame {
	return api.Frame{Slots: n[slots], Old: n[olds], New: n[news], Ins: n[ins], Outs: n[outs]}
}

func fieldsOf(f api.Frame) [5]int {
	return [5]int{f.Slots, f.Old, f.New, f.Ins, f.Outs}
}

// only is a frame in which one field is n, and all others are rest.
func only(field, n, rest int) api.Frame {
	all := [5]int{rest, rest, rest, rest, rest}
	all[field] = n
	return frameOf(all)
}

func in(op int, n int32) api.Ins { return api.Ins{Op: op, N: n} }

func push(n int32) api.Ins { return in(api.InPush, n) }
func drop() api.Ins        { return in(api.InZero, 0) }
func jump(n int32) api.Ins { return in(api.InJump, n) }
func zero(n int32) api.Ins { return in(api.InZero, n) }
func add() api.Ins         { return in(api.InBin, api.OpAdd) }
func neg() api.Ins         { return in(api.InUn, api.UnNeg) }

// times is an instruction n times.
func times(i api.Ins, n int) []api.Ins {
	return slices.Repeat([]api.Ins{i}, n)
}

// list is single instructions and pieces of code, one after the other.
func list(parts ...any) []api.Ins {
	var out []api.Ins
	for _, p := range parts {
		switch x := p.(type) {
		case api.Ins:
			out = append(out, x)
		case []api.Ins:
			out = append(out, x...)
		}
	}
	return out
}

// data is what a run is given beside its code and its fuel.
type data struct {
	f               api.Frame
	old, first, ins []int32
}

// row is a number of values from a start on.
func row(count int, from, step int32) []int32 {
	var out []int32
	for k := range count {
		out = append(out, from+int32(k)*step)
	}
	return out
}

// plain is values that differ from each other and from 0, for a frame.
func plain(f api.Frame) data {
	return data{f, row(f.Old, 101, 3), row(f.New, -201, -5), row(f.Ins, 301, 7)}
}

func (d data) run(code []api.Ins, fuel int) (Result, api.Errno) {
	return Run(code, d.f, d.old, d.first, d.ins, fuel)
}

// same is whether two Results are equal.
func same(a, b Result) bool {
	return slices.Equal(a.Cells, b.Cells) && slices.Equal(a.Outs, b.Outs) && a.Used == b.Used
}

// isRun expects an answer of Run.
func isRun(t *testing.T, d data, code []api.Ins, fuel int, want Result, e api.Errno) {
	t.Helper()
	got, gotE := d.run(code, fuel)
	if gotE != e || !same(got, want) {
		t.Errorf("Run of %d instructions %v with %v and the fuel %d = %v, %d, want %v, %d", len(code), code[:min(len(code), 20)], d, fuel, got, gotE, want, e)
	}
}

// fails expects an error, and the zero Result beside it.
func fails(t *testing.T, d data, code []api.Ins, fuel int, e api.Errno) {
	t.Helper()
	isRun(t, d, code, fuel, Result{}, e)
	if got, _ := d.run(code, fuel); len(got.Cells) != 0 || len(got.Outs) != 0 || got.Used != 0 {
		t.Errorf("Run of %v = %v beside an error", code[:min(len(code), 20)], got)
	}
}

// tells expects a code to leave one value, which it is made to put out.
func tells(t *testing.T, d data, code []api.Ins, want int32) {
	t.Helper()
	d.f.Outs = 1
	whole := list(code, in(api.InOut, 0))
	got, e := d.run(whole, plenty)
	if e != api.OK || len(got.Outs) != 1 || got.Outs[0] != want {
		t.Errorf("%v with %v puts out %v, %d, want %d", whole, d, got.Outs, e, want)
	}
}

func ruleOf(op int) (rule, bool) {
	at := slices.IndexFunc(rules, func(r rule) bool { return r.op == op })
	if at < 0 {
		return rule{}, false
	}
	return rules[at], true
}

// wantRight is the error that chapter 8 names for an instruction.
func wantRight(i api.Ins) api.Errno {
	r, ok := ruleOf(i.Op)
	if !ok {
		return api.ErrOp
	}
	if int64(i.N) < r.low || int64(i.N) > r.high {
		return r.e
	}
	return api.OK
}

// accesses is whether a frame has the place of an instruction, if it has one.
func accesses(i api.Ins, f api.Frame) bool {
	r, _ := ruleOf(i.Op)
	return r.field == noField || int(i.N) < fieldsOf(f)[r.field]
}

// wrapped is the 32-bit number that differs from n by a multiple of 2^32.
func wrapped(n int64) int32 {
	n %= 1 << 32
	if n > math.MaxInt32 {
		n -= 1 << 32
	}
	if n < math.MinInt32 {
		n += 1 << 32
	}
	return int32(n)
}

func truth(b bool) int32 {
	if b {
		return 1
	}
	return 0
}

func quotient(a, b int64) int64 {
	if b == 0 {
		return 0
	}
	return a / b
}

// floor is a / b, rounded down, for b above 0.
func floor(a, b int64) int64 {
	return (a - (a%b+b)%b) / b
}

// wantBin is what chapter 1 says of an operation of two values.
func wantBin(op, a32, b32 int32) int32 {
	a, b := int64(a32), int64(b32)
	power := int64(1)
	for range (b%32 + 32) % 32 {
		power *= 2
	}
	return []int32{
		wrapped(a + b), wrapped(a - b), wrapped(a * b), wrapped(quotient(a, b)), wrapped(a - b*quotient(a, b)),
		wrapped(a * power), wrapped(floor(a, power)), wrapped(a & b), wrapped(a | b), wrapped(a ^ b),
		truth(a == b), truth(a != b), truth(a < b), truth(a <= b), truth(a > b), truth(a >= b),
	}[op-1]
}

// wantUn is what chapter 1 says of an operation of one value.
func wantUn(op, a int32) int32 {
	if op == 1 {
		return wrapped(-int64(a))
	}
	return truth(a == 0)
}

// stand is where a run stands, in the chapter's words: every step makes a new one.
type stand struct {
	at     int
	stack  []int32
	places [5][]int32 // by the field of the frame
}

// wantFault is the first error of the instruction at the position, in the chapter's order.
func (s stand) wantFault(code []api.Ins, f api.Frame) api.Errno {
	i := code[s.at]
	if e := wantRight(i); e != api.OK {
		return e
	}
	if !accesses(i, f) {
		return api.ErrRange
	}
	r, _ := ruleOf(i.Op)
	if len(s.stack) < r.pops || len(s.stack)-r.pops+r.pushes > 16 {
		return api.ErrStack
	}
	if s.after(i) > len(code) {
		return api.ErrJump
	}
	return api.OK
}

// after is the position after an instruction.
func (s stand) after(i api.Ins) int {
	if i.Op == api.InJump || i.Op == api.InZero && s.stack[len(s.stack)-1] == 0 {
		return s.at + 1 + int(i.N)
	}
	return s.at + 1
}

// wantStep is where a run stands after an instruction that has no error.
func (s stand) wantStep(i api.Ins) stand {
	r, _ := ruleOf(i.Op)
	left := len(s.stack) - r.pops
	popped := s.stack[left:]
	out := stand{at: s.after(i), stack: slices.Clone(s.stack[:left]), places: s.places}
	switch i.Op {
	case api.InPush:
		out.stack = append(out.stack, i.N)
	case api.InLoad, api.InCell, api.InIn:
		out.stack = append(out.stack, s.places[r.field][i.N])
	case api.InStore, api.InKeep, api.InOut:
		changed := slices.Clone(s.places[r.field])
		changed[i.N] = popped[0]
		out.places[r.field] = changed
	case api.InUn:
		out.stack = append(out.stack, wantUn(i.N, popped[0]))
	case api.InBin:
		out.stack = append(out.stack, wantBin(i.N, popped[0], popped[1]))
	}
	return out
}

// wantRun is the answer of Run in the chapter's words, for a valid frame with as many values.
func wantRun(d data, code []api.Ins, fuel int) (Result, api.Errno) {
	if len(code) > 600 {
		return Result{}, api.ErrBig
	}
	s := stand{places: [5][]int32{make([]int32, d.f.Slots), d.old, d.first, d.ins, make([]int32, d.f.Outs)}}
	used := 0
	for s.at != len(code) {
		if used == fuel {
			return Result{}, api.ErrFuel
		}
		if e := s.wantFault(code, d.f); e != api.OK {
			return Result{}, e
		}
		s = s.wantStep(code[s.at])
		used++
	}
	if len(s.stack) != 0 {
		return Result{}, api.ErrStack
	}
	return Result{Cells: s.places[news], Outs: s.places[outs], Used: used}, api.OK
}

// asTold expects the answer of the chapter's words, and tells its error.
func asTold(t *testing.T, d data, code []api.Ins, fuel int) api.Errno {
	t.Helper()
	want, e := wantRun(d, code, fuel)
	isRun(t, d, code, fuel, want, e)
	return e
}

// next is the number behind x in a fixed sequence.
func next(x uint32) uint32 {
	x ^= x << 13
	x ^= x >> 17
	return x ^ x<<5
}

// writer writes code as a compiler would, by a fixed sequence of numbers: each piece is accepted.
type writer struct {
	x     uint32
	frame api.Frame
	code  []api.Ins
}

func newWriter(seed int, f api.Frame) *writer {
	return &writer{x: 2463534242 + uint32(seed)*2654435761, frame: f}
}

// pick is a number below n.
func (w *writer) pick(n int) int {
	w.x = next(w.x)
	return int(w.x>>8) % n
}

// number is a value of any magnitude; 0 is frequent, such that both ways of InZero are.
func (w *writer) number() int32 {
	switch w.pick(3) {
	case 0:
		return 0
	case 1:
		return edges[w.pick(len(edges))]
	}
	w.x = next(w.x)
	return int32(w.x)
}

// numbers is a count of such values.
func (w *writer) numbers(count int) []int32 {
	var out []int32
	for range count {
		out = append(out, w.number())
	}
	return out
}

func (w *writer) data() data {
	return data{w.frame, w.numbers(w.frame.Old), w.numbers(w.frame.New), w.numbers(w.frame.Ins)}
}

func (w *writer) put(op, n int) {
	w.code = append(w.code, in(op, int32(n)))
}

// over puts a jump behind which a piece follows, and sets it to pass over the piece and some instructions more.
func (w *writer) over(op int, piece func(), more int) {
	at := len(w.code)
	w.put(op, 0)
	piece()
	w.code[at].N = int32(len(w.code) - at - 1 + more)
}

// place puts an access, if the frame has such a place, and another instruction otherwise.
func (w *writer) place(op, count, otherwise int) {
	if count == 0 {
		w.put(otherwise, 0)
		return
	}
	w.put(op, w.pick(count))
}

// value puts a piece that pushes one value.
func (w *writer) value(deep int) {
	if deep == 0 {
		w.leaf()
		return
	}
	switch w.pick(5) {
	case 0:
		w.value(deep - 1)
		w.put(api.InUn, 1+w.pick(2))
	case 1, 2:
		w.value(deep - 1)
		w.value(deep - 1)
		w.put(api.InBin, 1+w.pick(16))
	case 3:
		w.value(deep - 1)
		w.over(api.InZero, func() { w.value(deep - 1) }, 1)
		w.over(api.InJump, func() { w.value(deep - 1) }, 0)
	default:
		w.leaf()
	}
}

func (w *writer) leaf() {
	switch w.pick(4) {
	case 0:
		w.place(api.InLoad, w.frame.Slots, api.InPush)
	case 1:
		w.place(api.InCell, w.frame.Old, api.InPush)
	case 2:
		w.place(api.InIn, w.frame.Ins, api.InPush)
	default:
		w.put(api.InPush, int(w.number()))
	}
}

// line puts a piece that leaves the depth as it was.
func (w *writer) line(deep int) {
	switch w.pick(7) {
	case 0:
		w.value(deep)
		w.place(api.InStore, w.frame.Slots, api.InZero)
	case 1:
		w.value(deep)
		w.place(api.InKeep, w.frame.New, api.InZero)
	case 2:
		w.value(deep)
		w.place(api.InOut, w.frame.Outs, api.InZero)
	case 3:
		w.put(api.InJump, 0)
	case 4:
		w.value(deep)
		w.over(api.InZero, func() { w.lines(deep, 2) }, 0)
	default:
		w.value(deep)
		w.over(api.InZero, func() { w.lines(deep, 2) }, 1)
		w.over(api.InJump, func() { w.lines(deep, 3) }, 0)
	}
}

// lines puts fewer pieces than a count.
func (w *writer) lines(deep, count int) {
	if deep == 0 {
		return
	}
	for range w.pick(count) {
		w.line(deep - 1)
	}
}

// frames are frames of several sizes, the smallest and the largest among them.
func frames() []api.Frame {
	return []api.Frame{{}, widest, {Slots: 1, Old: 1, New: 2, Ins: 1, Outs: 1}, {Slots: 3, Outs: 1}, {Old: 2, New: 1, Ins: 3}, {New: 16, Ins: 8}}
}

// written is a code of at most 600 instructions that is accepted for a frame.
func written(seed int, f api.Frame) []api.Ins {
	w := newWriter(seed, f)
	count := 1 + w.pick(30)
	for range count {
		before := len(w.code)
		w.line(w.pick(5))
		if len(w.code) > 600 {
			w.code = w.code[:before]
		}
	}
	return w.code
}

// spoiled is a code in which one instruction is another one, or missing, or there twice.
func spoiled(code []api.Ins, seed int) []api.Ins {
	w := newWriter(seed, api.Frame{})
	at := w.pick(len(code))
	out := slices.Clone(code)
	switch w.pick(4) {
	case 0:
		return slices.Delete(out, at, at+1)
	case 1:
		return slices.Insert(out, at, out[at])
	case 2:
		out[at].N += int32(w.pick(7) - 3)
	default:
		out[at] = in(w.pick(13), int32(w.pick(30)))
	}
	return out
}

// each calls f with every code of up to a length over some instructions.
func each(most int, alphabet []api.Ins, f func(code []api.Ins)) {
	var grow func(code []api.Ins)
	grow = func(code []api.Ins) {
		f(code)
		if len(code) == most {
			return
		}
		for _, i := range alphabet {
			grow(append(code[:len(code):len(code)], i))
		}
	}
	grow(nil)
}

// P10.1: the examples.
func TestRunExamples(t *testing.T) {
	d := data{f: api.Frame{Ins: 1, Outs: 1}, ins: []int32{5}}
	triple := list(in(api.InIn, 0), push(3), in(api.InBin, api.OpMul), in(api.InOut, 0))
	isRun(t, d, triple, 4, Result{Outs: []int32{15}, Used: 4}, api.OK)
	fails(t, d, triple, 3, api.ErrFuel)
	fails(t, d, list(push(1)), 9, api.ErrStack)
	fails(t, d, list(add()), 9, api.ErrStack)
	choice := list(in(api.InIn, 0), zero(2), push(7), in(api.InOut, 0))
	isRun(t, data{f: d.f, ins: []int32{0}}, choice, 9, Result{Outs: []int32{0}, Used: 2}, api.OK)
	isRun(t, data{f: d.f, ins: []int32{1}}, choice, 9, Result{Outs: []int32{7}, Used: 4}, api.OK)
}

// P10.1: the code of DOC.md's first example: y = 5 fby y + 1, over two instants.
func TestRunCounter(t *testing.T) {
	f := api.Frame{Slots: 1, Old: 1, New: 1, Outs: 1}
	code := list(in(api.InCell, 0), in(api.InStore, 0), in(api.InLoad, 0), push(1), add(), in(api.InKeep, 0), in(api.InLoad, 0), in(api.InOut, 0))
	isRun(t, data{f: f, old: []int32{5}, first: []int32{5}}, code, 8, Result{Cells: []int32{6}, Outs: []int32{5}, Used: 8}, api.OK)
	isRun(t, data{f: f, old: []int32{6}, first: []int32{5}}, code, 8, Result{Cells: []int32{7}, Outs: []int32{6}, Used: 8}, api.OK)
}

// P10.1: without instructions nothing is used, not even fuel: the cells are first, the outputs 0.
func TestRunNothing(t *testing.T) {
	for _, f := range frames() {
		d := plain(f)
		want := Result{Cells: d.first, Outs: make([]int32, f.Outs)}
		for _, fuel := range []int{0, 1, math.MaxInt} {
			isRun(t, d, nil, fuel, want, api.OK)
			isRun(t, d, []api.Ins{}, fuel, want, api.OK)
		}
	}
}

// P10.1: each field of a frame at its greatest value, one outside and far away; the values are as many as the frame says, if that can be.
func TestRunFrame(t *testing.T) {
	for field, most := range limits {
		for _, rest := range []int{0, 8} {
			d := plain(only(field, most, rest))
			isRun(t, d, nil, 0, Result{Cells: d.first, Outs: make([]int32, d.f.Outs)}, api.OK)
			fails(t, plain(only(field, most+1, rest)), nil, plenty, api.ErrArg)
			for _, n := range []int{-1, -2, 256, 1 << 32, math.MaxInt, math.MinInt} {
				d := plain(only(field, 0, rest))
				d.f = only(field, n, rest)
				fails(t, d, nil, plenty, api.ErrArg)
			}
		}
	}
}

// P10.1: old, first and ins have exactly as many values as the frame has old cells, new cells and inputs.
func TestRunCounts(t *testing.T) {
	for _, f := range []api.Frame{{}, widest, {Old: 1}, {New: 1}, {Ins: 1}, {Old: 2, New: 3, Ins: 4}, {Old: 4, New: 2, Ins: 3}} {
		for k := range 125 {
			counts := [3]int{f.Old + k%5 - 2, f.New + k/5%5 - 2, f.Ins + k/25 - 2}
			if min(counts[0], counts[1], counts[2]) < 0 {
				continue
			}
			d := data{f, row(counts[0], 1, 1), row(counts[1], 1, 1), row(counts[2], 1, 1)}
			if k != 62 {
				fails(t, d, nil, plenty, api.ErrArg)
				continue
			}
			isRun(t, d, nil, plenty, Result{Cells: d.first, Outs: make([]int32, f.Outs)}, api.OK)
		}
	}
	// Nobody asks what the values behind the length of a list are.
	d := plain(widest)
	d.old = d.old[:15]
	fails(t, d, nil, plenty, api.ErrArg)
}

// P10.1: fuel below 0.
func TestRunFuelBelow(t *testing.T) {
	for _, fuel := range []int{-1, -2, -600, -1 << 32, math.MinInt, math.MinInt + 1} {
		for _, code := range [][]api.Ins{nil, {jump(0)}, {{}}, times(jump(0), 601)} {
			fails(t, data{}, code, fuel, api.ErrArg)
			fails(t, plain(widest), code, fuel, api.ErrArg)
		}
	}
}

// P10.1: up to 600 instructions run; more are ErrBig, whatever they are and whatever the fuel is, but behind ErrArg.
func TestRunBig(t *testing.T) {
	for _, count := range []int{1, 2, 599, 600} {
		isRun(t, data{}, times(jump(0), count), count, Result{Used: count}, api.OK)
	}
	for _, count := range []int{601, 602, 1200, 70000} {
		for _, i := range []api.Ins{jump(0), {}, push(1), drop(), jump(65535), in(api.InLoad, 0)} {
			code := times(i, count)
			for _, fuel := range []int{0, 1, 600, math.MaxInt} {
				fails(t, data{}, code, fuel, api.ErrBig)
			}
			fails(t, data{}, code, -1, api.ErrArg)
			fails(t, data{f: api.Frame{Slots: 25}}, code, plenty, api.ErrArg)
			fails(t, data{f: api.Frame{Slots: -1}}, code, plenty, api.ErrArg)
			fails(t, data{f: api.Frame{Old: 1}}, code, plenty, api.ErrArg)
			fails(t, data{f: api.Frame{New: 1}}, code, plenty, api.ErrArg)
			fails(t, data{f: api.Frame{Ins: 1}}, code, plenty, api.ErrArg)
			fails(t, data{ins: []int32{1}}, code, plenty, api.ErrArg)
		}
	}
	// A jump over most of a code does not make it shorter.
	fails(t, data{}, list(jump(600), times(jump(0), 600)), 1, api.ErrBig)
	isRun(t, data{}, list(jump(599), times(api.Ins{}, 599)), 1, Result{Used: 1}, api.OK)
}

// P10.1: InPush pushes N, whatever it is.
func TestPush(t *testing.T) {
	for _, n := range edges {
		tells(t, data{}, list(push(n)), n)
	}
}

// P10.1: each old cell and each input is told as it was given; each slot, and each output, as it was stored, and 0 ahead of that.
func TestPlaces(t *testing.T) {
	d := plain(widest)
	for n := range int32(16) {
		tells(t, d, list(in(api.InCell, n)), d.old[n])
	}
	for n := range int32(8) {
		tells(t, d, list(in(api.InIn, n)), d.ins[n])
	}
	var fill, check []api.Ins
	for n := range int32(24) {
		tells(t, d, list(in(api.InLoad, n)), 0)
		fill = append(fill, push(1000+n), in(api.InStore, n))
	}
	for n := range int32(24) {
		check = list(fill, in(api.InLoad, n))
		tells(t, d, check, 1000+n)
	}
	tells(t, d, list(fill, push(5), in(api.InStore, 7), in(api.InLoad, 7)), 5)
	tells(t, d, list(fill, push(5), in(api.InStore, 7), in(api.InLoad, 8)), 1008)
}

// P10.1: InKeep and InOut change one place, the last value counts, and all other places stay.
func TestKeepAndOut(t *testing.T) {
	d := plain(widest)
	for n := range 16 {
		want := Result{Cells: slices.Clone(d.first), Outs: make([]int32, 8), Used: 4}
		want.Cells[n] = 9
		isRun(t, d, list(push(4), in(api.InKeep, int32(n)), push(9), in(api.InKeep, int32(n))), plenty, want, api.OK)
	}
	for n := range 8 {
		want := Result{Cells: d.first, Outs: make([]int32, 8), Used: 4}
		want.Outs[n] = 9
		isRun(t, d, list(push(4), in(api.InOut, int32(n)), push(9), in(api.InOut, int32(n))), plenty, want, api.OK)
	}
	want := Result{Cells: d.first, Outs: make([]int32, 8), Used: 2}
	isRun(t, d, list(push(9), in(api.InStore, 0)), plenty, want, api.OK)
}

// P10.1: InCell pushes the old cell, also behind an InKeep of its number and where first is another value.
func TestOldCellsStay(t *testing.T) {
	d := data{f: api.Frame{Old: 2, New: 2}, old: []int32{3, 4}, first: []int32{5, 6}}
	swap := list(in(api.InCell, 0), in(api.InKeep, 1), in(api.InCell, 1), in(api.InKeep, 0))
	isRun(t, d, swap, 4, Result{Cells: []int32{4, 3}, Used: 4}, api.OK)
	again := list(push(8), in(api.InKeep, 0), in(api.InCell, 0), in(api.InKeep, 1))
	isRun(t, d, again, 4, Result{Cells: []int32{8, 3}, Used: 4}, api.OK)
	// Neither when one list is given as both.
	memory := []int32{3, 4}
	isRun(t, data{f: d.f, old: memory, first: memory}, swap, 4, Result{Cells: []int32{4, 3}, Used: 4}, api.OK)
	isRun(t, data{f: d.f, old: memory, first: memory}, again, 4, Result{Cells: []int32{8, 3}, Used: 4}, api.OK)
	if !slices.Equal(memory, []int32{3, 4}) {
		t.Errorf("the memory is %v", memory)
	}
}

// P10.1: the frame has other numbers of old and of new cells.
func TestMovedCells(t *testing.T) {
	d := data{f: api.Frame{Old: 3, New: 1}, old: []int32{3, 4, 5}, first: []int32{9}}
	isRun(t, d, list(in(api.InCell, 2), in(api.InKeep, 0)), 2, Result{Cells: []int32{5}, Used: 2}, api.OK)
	d = data{f: api.Frame{Old: 1, New: 3}, old: []int32{3}, first: []int32{7, 8, 9}}
	isRun(t, d, list(in(api.InCell, 0), in(api.InKeep, 2)), 2, Result{Cells: []int32{7, 8, 3}, Used: 2}, api.OK)
}

// P10.1: each operation of two values with all edges: b is popped first.
func TestBin(t *testing.T) {
	for op := int32(1); op <= 16; op++ {
		for _, a := range edges {
			for _, b := range edges {
				tells(t, data{}, list(push(a), push(b), in(api.InBin, op)), wantBin(op, a, b))
			}
		}
	}
	tells(t, data{}, list(push(7), push(2), in(api.InBin, api.OpSub)), 5)
	tells(t, data{}, list(push(7), push(2), in(api.InBin, api.OpGt)), 1)
	tells(t, data{}, list(push(7), push(0), in(api.InBin, api.OpDiv)), 0)
	tells(t, data{}, list(push(7), push(0), in(api.InBin, api.OpRem)), 7)
	tells(t, data{}, list(push(math.MinInt32), push(-1), in(api.InBin, api.OpDiv)), math.MinInt32)
	tells(t, data{}, list(push(1), push(33), in(api.InBin, api.OpShl)), 2)
}

// P10.1: each operation of one value with all edges.
func TestUn(t *testing.T) {
	for op := int32(1); op <= 2; op++ {
		for _, a := range edges {
			tells(t, data{}, list(push(a), in(api.InUn, op)), wantUn(op, a))
		}
	}
	tells(t, data{}, list(push(5), in(api.InUn, api.UnNot)), 0)
	tells(t, data{}, list(push(math.MinInt32), neg()), math.MinInt32)
}

// P10.1: an operation takes the values on top, and leaves those below.
func TestStackOrder(t *testing.T) {
	d := data{f: api.Frame{Outs: 3}}
	code := list(push(1), push(2), push(3), in(api.InOut, 0), in(api.InOut, 1), in(api.InOut, 2))
	isRun(t, d, code, 6, Result{Outs: []int32{3, 2, 1}, Used: 6}, api.OK)
	code = list(push(1), push(20), push(3), in(api.InBin, api.OpSub), neg(), in(api.InOut, 0), in(api.InOut, 1))
	isRun(t, d, code, 7, Result{Outs: []int32{-17, 1, 0}, Used: 7}, api.OK)
}

// P10.1: InJump passes N instructions, which are not executed, up to the end.
func TestJump(t *testing.T) {
	d := data{f: api.Frame{Outs: 1}}
	for size := range 20 {
		for n := range size + 3 {
			code := list(jump(int32(n)), times(jump(0), size))
			if n > size {
				fails(t, d, code, plenty, api.ErrJump)
				continue
			}
			isRun(t, d, code, plenty, Result{Outs: []int32{0}, Used: 1 + size - n}, api.OK)
		}
	}
	isRun(t, d, list(jump(2), api.Ins{}, add(), push(6), in(api.InOut, 0)), plenty, Result{Outs: []int32{6}, Used: 3}, api.OK)
	for _, n := range []int32{1, 2, 600, 601, 65534, 65535} {
		fails(t, d, list(jump(n)), plenty, api.ErrJump)
	}
}

// P10.1: InZero passes N instructions if the value is 0, and none otherwise.
func TestZero(t *testing.T) {
	for _, v := range edges {
		for size := range 10 {
			for n := range size + 3 {
				code := list(push(v), zero(int32(n)), times(jump(0), size))
				switch {
				case v != 0:
					isRun(t, data{}, code, plenty, Result{Used: 2 + size}, api.OK)
				case n > size:
					fails(t, data{}, code, plenty, api.ErrJump)
				default:
					isRun(t, data{}, code, plenty, Result{Used: 2 + size - n}, api.OK)
				}
			}
		}
	}
}

// P10.1: only the way that is taken may not lead behind the end: this is where Run is kinder than Check.
func TestZeroNotTaken(t *testing.T) {
	for _, n := range []int32{1, 2, 600, 65535} {
		code := list(push(1), zero(n))
		isRun(t, data{}, code, 2, Result{Used: 2}, api.OK)
		fails(t, data{}, list(push(0), zero(n)), 2, api.ErrJump)
		if _, e, _ := judge.Check(code, api.Frame{}); e != api.ErrJump {
			t.Errorf("Check of %v = %d", code, e)
		}
	}
	// Its N must be right all the same.
	for _, n := range []int32{-1, 65536, math.MinInt32, math.MaxInt32} {
		fails(t, data{}, list(push(1), zero(n)), 2, api.ErrRange)
		fails(t, data{}, list(push(0), zero(n)), 2, api.ErrRange)
	}
}

// P10.1: what is passed over has no error, and needs no fuel.
func TestNotExecuted(t *testing.T) {
	wrong := []api.Ins{{}, {Op: 12}, {Op: -1}, in(api.InBin, 17), in(api.InLoad, 0), in(api.InStore, 300), add(), drop(), jump(65535), jump(-1), zero(9)}
	for _, i := range wrong {
		for _, count := range []int{1, 2, 17, 500} {
			isRun(t, data{}, list(jump(int32(count)), times(i, count)), 1, Result{Used: 1}, api.OK)
			isRun(t, data{}, list(push(0), zero(int32(count)), times(i, count)), 2, Result{Used: 2}, api.OK)
			isRun(t, data{}, list(jump(int32(count)), times(i, count), jump(0)), 2, Result{Used: 2}, api.OK)
		}
	}
}

// P10.1: depths that differ where the ways meet are no error of a run, only of Check.
func TestUnevenDepths(t *testing.T) {
	f := api.Frame{Ins: 1, Outs: 2}
	code := list(in(api.InIn, 0), zero(2), push(5), in(api.InOut, 1), in(api.InIn, 0), zero(1), push(8), in(api.InOut, 0))
	isRun(t, data{f: f, ins: []int32{3}}, code, plenty, Result{Outs: []int32{8, 5}, Used: 8}, api.OK)
	fails(t, data{f: f, ins: []int32{0}}, code, plenty, api.ErrStack)
	if _, e, _ := judge.Check(code, f); e != api.ErrStack {
		t.Errorf("Check = %d", e)
	}
}

// P10.1: instructions that are not valid give the error of isa.Right once they are come to.
func TestWrongInstructions(t *testing.T) {
	wrong := []api.Ins{
		{}, {Op: 12}, {Op: 13}, {Op: -1}, {Op: 256 + api.InPush}, {Op: 1<<32 + api.InJump}, {Op: math.MaxInt}, {Op: math.MinInt},
		in(api.InUn, 0), in(api.InUn, 3), in(api.InUn, -1), in(api.InBin, 0), in(api.InBin, 17), in(api.InBin, 257), in(api.InBin, math.MinInt32),
		jump(-1), jump(65536), zero(-1), zero(65536), jump(math.MinInt32), zero(math.MaxInt32),
		in(api.InLoad, -1), in(api.InStore, 256), in(api.InCell, -1), in(api.InKeep, 256), in(api.InIn, -1), in(api.InOut, math.MinInt32),
	}
	d := plain(widest)
	for _, i := range wrong {
		for _, before := range [][]api.Ins{nil, times(push(1), 2), times(push(0), 16), list(push(0), push(0), drop(), drop(), jump(0))} {
			fails(t, d, list(before, i), plenty, wantRight(i))
			fails(t, d, list(before, i, add(), jump(9)), plenty, wantRight(i))
			fails(t, d, list(before, i), len(before), api.ErrFuel)
			fails(t, d, list(before, i), len(before)+1, wantRight(i))
		}
	}
}

// P10.1: each access just inside and just outside of frames of each size, and the greatest N.
func TestAccess(t *testing.T) {
	for _, r := range rules {
		if r.field == noField {
			continue
		}
		for count := range limits[r.field] + 1 {
			for _, rest := range []int{0, 8} {
				d := plain(only(r.field, count, rest))
				for n := range int32(count) {
					if asTold(t, d, list(times(push(3), r.pops), in(r.op, n), times(drop(), r.pushes)), plenty) != api.OK {
						t.Errorf("%v has no place %d of field %d", d.f, n, r.field)
					}
				}
				for _, n := range []int32{int32(count), int32(count) + 1, 24, 254, 255} {
					fails(t, d, list(times(push(3), r.pops), in(r.op, n), times(drop(), r.pushes)), plenty, api.ErrRange)
				}
			}
		}
	}
}

// P10.1: each Op asks its own field of the frame alone: InCell the old cells, InKeep the new ones.
func TestAccessOwnField(t *testing.T) {
	for _, r := range rules {
		if r.field == noField {
			continue
		}
		code := list(times(push(3), r.pops), in(r.op, 3), times(drop(), r.pushes))
		for field := range limits {
			if field == r.field {
				fails(t, plain(only(field, 3, 8)), code, plenty, api.ErrRange)
				asTold(t, plain(only(field, 4, 0)), code, plenty)
				continue
			}
			fails(t, plain(only(field, 8, 0)), code, plenty, api.ErrRange)
			asTold(t, plain(only(field, 0, 4)), code, plenty)
		}
	}
}

// P10.1: each Op with too few values, and with just enough.
func TestTooFewValues(t *testing.T) {
	d := plain(widest)
	for _, r := range rules {
		i := in(r.op, 1)
		for count := range 17 {
			code := list(times(push(5), count), i)
			if count < r.pops {
				fails(t, d, code, plenty, api.ErrStack)
				fails(t, d, list(code, times(push(0), 3), times(drop(), 3)), plenty, api.ErrStack)
				continue
			}
			// With the greatest depth a push is too much; otherwise the rest is popped.
			rest := list(code, jump(0), times(drop(), count-r.pops+r.pushes))
			want := api.OK
			if count-r.pops+r.pushes > 16 {
				want = api.ErrStack
			}
			if e := asTold(t, d, rest, plenty); e != want {
				t.Errorf("%v on %d values: %d", i, count, e)
			}
		}
	}
}

// P10.1: 16 values are as many as there may be: each Op that pushes is refused at 16, if it pops none.
func TestTooManyValues(t *testing.T) {
	d := plain(widest)
	for _, i := range []api.Ins{push(1), in(api.InLoad, 1), in(api.InCell, 1), in(api.InIn, 1)} {
		full := times(i, 16)
		isRun(t, d, list(full, times(drop(), 16)), plenty, Result{Cells: d.first, Outs: make([]int32, 8), Used: 32}, api.OK)
		fails(t, d, list(full, i), plenty, api.ErrStack)
		fails(t, d, list(full, i, times(drop(), 17)), plenty, api.ErrStack)
		fails(t, d, list(full, drop(), i, i, times(drop(), 17)), plenty, api.ErrStack)
		for _, j := range []api.Ins{neg(), jump(0)} {
			isRun(t, d, list(full, j, times(drop(), 16)), plenty, Result{Cells: d.first, Outs: make([]int32, 8), Used: 33}, api.OK)
		}
		isRun(t, d, list(full, add(), i, times(drop(), 16)), plenty, Result{Cells: d.first, Outs: make([]int32, 8), Used: 34}, api.OK)
	}
}

// P10.1: values that are left at the end are an error, also where nothing is left to be executed.
func TestValuesLeft(t *testing.T) {
	for count := 1; count <= 16; count++ {
		fails(t, data{}, times(push(1), count), count, api.ErrStack)
		fails(t, data{}, times(push(1), count), plenty, api.ErrStack)
		fails(t, data{}, list(times(push(1), count), jump(2), drop(), drop()), plenty, api.ErrStack)
		fails(t, data{}, list(times(push(1), count), times(drop(), count-1)), plenty, api.ErrStack)
		isRun(t, data{}, list(times(push(1), count), times(drop(), count)), plenty, Result{Used: 2 * count}, api.OK)
	}
	// Before the end it is the fuel that counts.
	fails(t, data{}, list(push(1), jump(0)), 1, api.ErrFuel)
	fails(t, data{}, list(push(1), jump(0)), 2, api.ErrStack)
}

// P10.1: where several errors apply to one instruction, the first of the list is told, and ErrFuel before all.
func TestErrorOrder(t *testing.T) {
	d := data{f: api.Frame{Slots: 1}}
	full := times(push(0), 16)
	for _, c := range []struct {
		code []api.Ins
		e    api.Errno
	}{
		// The instruction is not valid, and the stack is empty, or a target is behind the end.
		{list(in(api.InUn, 0)), api.ErrOp},
		{list(in(api.InBin, 17)), api.ErrOp},
		{list(zero(65536)), api.ErrRange},
		{list(jump(-1)), api.ErrRange},
		{list(jump(65536)), api.ErrRange},
		{list(full, in(api.InLoad, 256)), api.ErrRange},
		// A place outside, and no value or a full stack.
		{list(in(api.InStore, 1)), api.ErrRange},
		{list(in(api.InKeep, 0)), api.ErrRange},
		{list(in(api.InOut, 0)), api.ErrRange},
		{list(full, in(api.InLoad, 1)), api.ErrRange},
		{list(full, in(api.InCell, 0)), api.ErrRange},
		{list(full, in(api.InIn, 0)), api.ErrRange},
		{list(full, in(api.InLoad, 0)), api.ErrStack},
		{list(in(api.InStore, 0)), api.ErrStack},
		// Without a value an InZero does not jump.
		{list(zero(9)), api.ErrStack},
		{list(push(0), drop(), zero(65535)), api.ErrStack},
		// A jump behind the end, and values that are left.
		{list(push(0), jump(1)), api.ErrJump},
		{list(push(0), push(0), zero(1)), api.ErrJump},
	} {
		fails(t, d, c.code, plenty, c.e)
		fails(t, d, c.code, len(c.code), c.e)
		fails(t, d, c.code, len(c.code)-1, api.ErrFuel)
	}
}

// P10.1: the first instruction that has an error is told, by the order of execution.
func TestFirstError(t *testing.T) {
	d := data{f: api.Frame{Slots: 1}}
	faults := []struct {
		code []api.Ins
		e    api.Errno
	}{
		{list(api.Ins{}), api.ErrOp},
		{list(in(api.InLoad, 1)), api.ErrRange},
		{list(add()), api.ErrStack},
		{list(times(push(1), 17)), api.ErrStack},
		{list(jump(5000)), api.ErrJump},
		{list(push(0), zero(5000)), api.ErrJump},
	}
	for _, first := range faults {
		for _, second := range faults {
			fails(t, d, list(push(1), drop(), first.code, second.code), plenty, first.e)
			size := int32(len(first.code))
			fails(t, d, list(jump(size), first.code, second.code), plenty, second.e)
			fails(t, d, list(push(0), zero(size), first.code, second.code), plenty, second.e)
			fails(t, d, list(push(1), zero(size), first.code, second.code), plenty, first.e)
		}
	}
}

// P10.1: a code that is not accepted runs nevertheless, if its run meets no error.
func TestUnreachedIsNoError(t *testing.T) {
	code := list(jump(1), push(1), jump(0))
	isRun(t, data{}, code, 2, Result{Used: 2}, api.OK)
	if _, e, _ := judge.Check(code, api.Frame{}); e != api.ErrReach {
		t.Errorf("Check of %v = %d", code, e)
	}
}

// P10.1: every short code over instructions of all kinds, by the chapter's words, with several amounts of fuel.
func TestEveryShortCode(t *testing.T) {
	d := data{api.Frame{Slots: 1, Old: 1, New: 1, Ins: 1, Outs: 1}, []int32{5}, []int32{6}, []int32{0}}
	finished := 0
	alphabet := []api.Ins{push(3), in(api.InIn, 0), in(api.InStore, 0), in(api.InLoad, 0), in(api.InKeep, 0), in(api.InCell, 0), in(api.InOut, 0), in(api.InBin, api.OpSub), neg(), jump(1), zero(1), in(api.InLoad, 1), {}}
	each(4, alphabet, func(code []api.Ins) {
		for _, fuel := range []int{0, 2, 3, plenty} {
			if asTold(t, d, code, fuel) == api.OK {
				finished++
			}
		}
	})
	if finished < 500 {
		t.Errorf("only %d runs are finished", finished)
	}
}

// P10.1: every longer code over the instructions that branch, by the chapter's words.
func TestEveryBranchingCode(t *testing.T) {
	each(6, []api.Ins{push(0), push(1), drop(), jump(1), jump(2), zero(1), zero(3)}, func(code []api.Ins) {
		asTold(t, data{}, code, plenty)
	})
}

// P10.1: every short code at the greatest depths, by the chapter's words.
func TestEveryDeepCode(t *testing.T) {
	each(4, []api.Ins{push(0), push(1), drop(), add(), neg(), jump(1), zero(1), zero(2)}, func(code []api.Ins) {
		for _, depth := range []int{14, 15, 16} {
			asTold(t, data{}, list(times(push(1), depth), code, times(drop(), depth)), plenty)
		}
	})
}

// P10.1, P10.2: long codes that a compiler could write, with several values, by the chapter's words: no error, and no more steps than the Report states.
func TestWritten(t *testing.T) {
	most, shorter := 0, 0
	for _, f := range frames() {
		for seed := range 200 {
			code := written(seed, f)
			report, e, _ := judge.Check(code, f)
			if e != api.OK {
				t.Fatalf("seed %d in %v: %d", seed, f, e)
			}
			w := newWriter(seed+1, f)
			for range 6 {
				d := w.data()
				asTold(t, d, code, report.Fuel)
				got, e := d.run(code, report.Fuel)
				if e != api.OK || got.Used > report.Fuel {
					t.Errorf("seed %d in %v: %d steps, %d, the Report says %v", seed, f, got.Used, e, report)
				}
				most = max(most, got.Used)
				if got.Used < report.Fuel {
					shorter++
				}
			}
		}
	}
	if most < 100 || shorter < 100 {
		t.Errorf("the runs have at most %d steps, %d are shorter than the longest path", most, shorter)
	}
}

// P10.2: every short code that is accepted runs, whatever the values are, and one of its runs has no more steps than the Report states.
func TestEveryAcceptedCode(t *testing.T) {
	f := api.Frame{Slots: 1, Old: 1, New: 1, Ins: 2}
	accepted := 0
	each(6, []api.Ins{in(api.InIn, 0), in(api.InIn, 1), in(api.InKeep, 0), add(), jump(1), zero(1), zero(2)}, func(code []api.Ins) {
		report, e, _ := judge.Check(code, f)
		if e != api.OK {
			return
		}
		accepted++
		for k := range int32(4) {
			d := data{f, []int32{1}, []int32{1}, []int32{k & 1, k >> 1}}
			got, e := d.run(code, report.Fuel)
			if e != api.OK || got.Used > report.Fuel {
				t.Errorf("%v with %v: %v, %d, the Report says %v", code, d, got, e, report)
			}
		}
	})
	if accepted < 200 {
		t.Errorf("only %d codes are accepted", accepted)
	}
}

// P10.2: on the longest path the fuel of the Report is used to the last step, and one less is too little.
func TestLongestPath(t *testing.T) {
	d := data{f: api.Frame{Ins: 1}, ins: []int32{1}}
	var code []api.Ins
	for range 120 {
		code = append(code, in(api.InIn, 0), zero(3), jump(0), jump(0), jump(0))
	}
	report, _, _ := judge.Check(code, d.f)
	isRun(t, d, code, report.Fuel, Result{Used: 600}, api.OK)
	fails(t, d, code, report.Fuel-1, api.ErrFuel)
	d.ins[0] = 0
	isRun(t, d, code, report.Fuel, Result{Used: 240}, api.OK)
}

// P10.1: long codes with one wrong instruction, by the chapter's words; each error is among their answers.
func TestSpoiled(t *testing.T) {
	seen := map[api.Errno]int{}
	for _, f := range frames() {
		for seed := range 200 {
			code := written(seed, f)
			if len(code) == 0 {
				continue
			}
			w := newWriter(seed+1, f)
			for k := range 6 {
				seen[asTold(t, w.data(), spoiled(code, 1000*seed+k), 10+w.pick(600))]++
			}
		}
	}
	for _, e := range []api.Errno{api.OK, api.ErrOp, api.ErrRange, api.ErrStack, api.ErrJump, api.ErrFuel} {
		if seen[e] < 10 {
			t.Errorf("the error %d is told %d times only", e, seen[e])
		}
	}
}

// R1: whatever the instructions are, Run answers, and by the chapter's words.
func TestAnyInstructions(t *testing.T) {
	for _, f := range frames() {
		for seed := range 300 {
			w := newWriter(seed, f)
			for range w.pick(40) {
				w.put(w.pick(14)-1, []int{w.pick(5), w.pick(5), w.pick(20), int(w.number())}[w.pick(4)])
			}
			asTold(t, w.data(), w.code, w.pick(50))
		}
	}
}

// P10.3: with each amount of fuel from what was used on the result is the same; with each smaller one it is ErrFuel.
func TestFuel(t *testing.T) {
	for _, f := range frames() {
		for seed := range 30 {
			code := written(seed, f)
			d := newWriter(seed+1, f).data()
			want, e := d.run(code, math.MaxInt)
			if e != api.OK {
				t.Fatalf("seed %d in %v: %d", seed, f, e)
			}
			for _, more := range []int{0, 1, 2, 17, 600, 1 << 32, math.MaxInt - 600} {
				isRun(t, d, code, want.Used+more, want, api.OK)
			}
			for fuel := range want.Used {
				fails(t, d, code, fuel, api.ErrFuel)
			}
		}
	}
}

// P10.3: a run that ends with an error is cut off by less fuel than it takes to come there, and by no more.
func TestFuelOfFaults(t *testing.T) {
	for _, c := range []struct {
		code []api.Ins
		e    api.Errno
	}{
		{list(jump(0), jump(0), add()), api.ErrStack},
		{list(jump(0), jump(0), jump(1)), api.ErrJump},
		{list(push(0), drop(), api.Ins{}), api.ErrOp},
		{list(push(0), drop(), in(api.InLoad, 0)), api.ErrRange},
	} {
		for _, fuel := range []int{0, 1, 2} {
			fails(t, data{}, c.code, fuel, api.ErrFuel)
		}
		for _, fuel := range []int{3, 4, plenty, math.MaxInt} {
			fails(t, data{}, c.code, fuel, c.e)
		}
	}
	for fuel, e := range []api.Errno{api.ErrFuel, api.ErrFuel, api.ErrStack, api.ErrStack} {
		fails(t, data{}, list(push(1), push(1)), fuel, e)
	}
}

// touched is whether a code has an instruction with this Op and this N.
func touched(code []api.Ins, op, n int) bool {
	return slices.Contains(code, in(op, int32(n)))
}

// P10.4: cells that no instruction stores to keep their value of first, such outputs are 0, and what is not read may be any value.
func TestUntouched(t *testing.T) {
	cells, outputs, unread := 0, 0, 0
	for _, f := range frames() {
		for seed := range 100 {
			code := written(seed, f)
			w := newWriter(seed+1, f)
			d := w.data()
			got, e := d.run(code, plenty)
			if e != api.OK {
				t.Fatalf("seed %d in %v: %d", seed, f, e)
			}
			for n, v := range got.Cells {
				if !touched(code, api.InKeep, n) {
					cells++
					if v != d.first[n] {
						t.Errorf("seed %d: cell %d is %d, first %d", seed, n, v, d.first[n])
					}
				}
			}
			for n, v := range got.Outs {
				if !touched(code, api.InOut, n) {
					outputs++
					if v != 0 {
						t.Errorf("seed %d: output %d is %d", seed, n, v)
					}
				}
			}
			for n := range d.old {
				if !touched(code, api.InCell, n) {
					unread++
					d.old[n] = w.number()
				}
			}
			for n := range d.ins {
				if !touched(code, api.InIn, n) {
					unread++
					d.ins[n] = w.number()
				}
			}
			isRun(t, d, code, plenty, got, api.OK)
		}
	}
	if min(cells, outputs, unread) < 100 {
		t.Errorf("only %d cells, %d outputs, %d values are untouched", cells, outputs, unread)
	}
}

// P10.4: an instruction that is passed over does not store.
func TestPassedStore(t *testing.T) {
	f := api.Frame{New: 1, Ins: 1, Outs: 1}
	code := list(in(api.InIn, 0), zero(4), push(5), in(api.InKeep, 0), push(6), in(api.InOut, 0))
	isRun(t, data{f, nil, []int32{9}, []int32{0}}, code, plenty, Result{Cells: []int32{9}, Outs: []int32{0}, Used: 2}, api.OK)
	isRun(t, data{f, nil, []int32{9}, []int32{1}}, code, plenty, Result{Cells: []int32{5}, Outs: []int32{6}, Used: 6}, api.OK)
}

// whole is a list with marked spare capacity behind it.
func whole(l []int32) []int32 {
	out := slices.Clone(l)
	for range 40 {
		out = append(out, 77)
	}
	return out
}

// R4: what is passed stays as it was, its spare capacity included, with and without an error; and a result is new memory.
func TestArgumentsStay(t *testing.T) {
	for seed := range 40 {
		d := newWriter(seed, widest).data()
		code := written(seed, widest)
		if seed%4 == 3 {
			code = list(code, push(9), in(api.InKeep, 3), add())
		}
		all := list(code, times(api.Ins{Op: 77, N: 77}, 40))
		old, first, inputs := whole(d.old), whole(d.first), whole(d.ins)
		got, _ := Run(all[:len(code)], widest, old[:16], first[:16], inputs[:8], plenty)
		for _, l := range [][]int32{got.Cells[:cap(got.Cells)], got.Outs[:cap(got.Outs)]} {
			for k := range l {
				l[k] = 66
			}
		}
		if !slices.Equal(all, list(code, times(api.Ins{Op: 77, N: 77}, 40))) {
			t.Errorf("seed %d: the code is changed", seed)
		}
		if !slices.Equal(old, whole(d.old)) || !slices.Equal(first, whole(d.first)) || !slices.Equal(inputs, whole(d.ins)) {
			t.Errorf("seed %d: the values are changed", seed)
		}
	}
}

// R4: the two lists of a result do not share memory, not even their spare capacity, nor do those of two results.
func TestResultsAreNew(t *testing.T) {
	d := plain(widest)
	code := list(push(5), in(api.InOut, 0), push(6), in(api.InKeep, 0))
	first, _ := d.run(code, plenty)
	want, _ := wantRun(d, code, plenty)
	second, _ := d.run(code, plenty)
	for _, l := range [][]int32{second.Cells[:cap(second.Cells)], second.Outs[:cap(second.Outs)]} {
		for k := range l {
			l[k] = 66
		}
	}
	if !same(first, want) {
		t.Errorf("the first result is %v, want %v", first, want)
	}
	for k := range first.Cells[:cap(first.Cells)] {
		first.Cells[:cap(first.Cells)][k] = 55
	}
	if !slices.Equal(first.Outs, want.Outs) {
		t.Errorf("the outputs are %v, want %v", first.Outs, want.Outs)
	}
}

// R1: nil and empty lists are the same.
func TestNilAndEmpty(t *testing.T) {
	code := list(push(5), in(api.InOut, 0))
	f := api.Frame{Outs: 1}
	want := Result{Outs: []int32{5}, Used: 2}
	isRun(t, data{f: f}, code, 2, want, api.OK)
	isRun(t, data{f, []int32{}, []int32{}, []int32{}}, code, 2, want, api.OK)
	isRun(t, data{f, nil, []int32{}, nil}, code, 2, want, api.OK)
}

// R4: the spare capacity behind a code is not executed.
func TestSpareIsNotCode(t *testing.T) {
	all := list(push(0), zero(1), jump(0), jump(0))
	fails(t, data{}, all[:2], plenty, api.ErrJump)
	isRun(t, data{}, all[:3], plenty, Result{Used: 2}, api.OK)
	fails(t, data{}, list(jump(1), push(1))[:1], plenty, api.ErrJump)
}

// R5: an answer does not hang on the calls before it, not even on those that were cut off.
func TestSameAnswers(t *testing.T) {
	for seed := range 50 {
		code := written(seed, widest)
		d := newWriter(seed, widest).data()
		want, e := d.run(code, plenty)
		fails(t, plain(widest), list(times(push(9), 10), in(api.InStore, 3), in(api.InKeep, 3), in(api.InOut, 3), api.Ins{}), plenty, api.ErrOp)
		fails(t, plain(widest), list(times(push(9), 10), in(api.InStore, 3)), 11, api.ErrStack)
		isRun(t, d, slices.Clone(code), plenty, want, e)
	}
}
