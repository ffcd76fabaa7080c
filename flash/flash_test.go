package flash

import (
	"fmt"
	"math"
	"slices"
	"testing"

	"midstream/api"
)

// noise is a fixed sequence of words, other ones for other seeds.
func noise(size int, seed uint32) []uint32 {
	out := make([]uint32, size)
	x := 2463534242 + seed
	for i := range out {
		x ^= x << 13
		x ^= x >> 17
		x ^= x << 5
		out[i] = x
	}
	return out
}

// ones are as many erased words.
func ones(size int) []uint32 {
	out := make([]uint32, size)
	for i := range out {
		out[i] = 0xffffffff
	}
	return out
}

// spoil writes over words, their spare capacity included.
func spoil(w []uint32) {
	w = w[:cap(w)]
	for i := range w {
		w[i] ^= 0xa5a5a5a5
	}
}

// off is a flash with these words whose power failed, without a change of them, after some operations that changed none either.
func off(t *testing.T, w []uint32, ops int) *Flash {
	t.Helper()
	f := Of(w)
	f.Cut(ops, 0)
	for range ops {
		if e := f.Program(0, 0xffffffff); e != api.OK {
			t.Fatal(e)
		}
	}
	if e := f.Program(0, 0); e != api.ErrOff {
		t.Fatal(e)
	}
	return f
}

// expect holds everything that can be seen of a flash against what it should be.
func expect(t *testing.T, what string, f *Flash, w []uint32, on bool, ops int) {
	t.Helper()
	got := f.Words()
	if len(got) != len(w) || f.Len() != len(w) || f.On() != on || f.Ops() != ops {
		t.Errorf("%s: %d words, Len %d, On %v, Ops %d, want %d, %v, %d", what, len(got), f.Len(), f.On(), f.Ops(), len(w), on, ops)
		return
	}
	for i := range w {
		if got[i] != w[i] {
			t.Errorf("%s: word %d is %#x, want %#x", what, i, got[i], w[i])
			return
		}
		if n, e := f.Read(i); on && (n != w[i] || e != api.OK) || !on && (n != 0 || e != api.ErrOff) {
			t.Errorf("%s: Read(%d) = %#x, %d, want %#x, and the power is on: %v", what, i, n, e, w[i], on)
			return
		}
	}
}

// masks are the ones that the chapter tells apart, their neighbours, and others.
func masks() []uint32 {
	return append([]uint32{0, 1, 2, 0xff, 0x100, 255, 256, 257, 258, 512, 513, 514, 0x80000000, 0x7fffffff, 0xfffffffe, 0xffffffff, 0x0f0f0f0f}, noise(20, 7)...)
}

// outside are numbers of no word and of no sector, those among them that a product with 256 would wrap into the range.
func outside() []int {
	return []int{-1, -2, -255, -256, -257, -4096, -1 << 31, -1 << 32, -1 << 56, -1<<56 + 1, math.MinInt, math.MinInt + 1,
		4096, 4097, 1 << 31, 1<<32 - 1, 1 << 32, 1<<32 + 1, 1 << 55, 1 << 56, 1<<56 + 1, 1 << 60, math.MaxInt - 1, math.MaxInt}
}

// P6.1: New has as many erased sectors as asked for, its power is on, and nothing is done or planned yet.
func TestNew(t *testing.T) {
	for sectors := 1; sectors <= 16; sectors++ {
		f := New(sectors)
		expect(t, fmt.Sprintf("New(%d)", sectors), f, ones(sectors*256), true, 0)
		for i := range sectors {
			if e := f.Erase(i); e != api.OK {
				t.Errorf("Erase(%d) of %d = %d", i, sectors, e)
			}
		}
	}
	if New(1) == New(1) {
		t.Error("New returns the same flash twice")
	}
}

// P6.1: a number of sectors that is not from 1 to 16 makes none.
func TestNewRefuses(t *testing.T) {
	for _, sectors := range append(outside(), 0, 17, 18, 32, 256) {
		if New(sectors) != nil {
			t.Errorf("New(%d) is a flash", sectors)
		}
	}
}

// P6.1: Of has exactly the words that it is given, whatever they are.
func TestOf(t *testing.T) {
	for sectors := 1; sectors <= 16; sectors++ {
		for _, w := range [][]uint32{noise(sectors*256, uint32(sectors)), make([]uint32, sectors*256), ones(sectors * 256)} {
			expect(t, fmt.Sprintf("Of %d sectors", sectors), Of(w), w, true, 0)
		}
	}
}

// P6.1: words that are not 1 to 16 whole sectors make none, whatever the capacity is.
func TestOfRefuses(t *testing.T) {
	whole := make([]uint32, 20*256)
	for size := range len(whole) + 1 {
		want := size > 0 && size <= 16*256 && size%256 == 0
		if got := Of(whole[:size]) != nil; got != want {
			t.Errorf("Of %d words is a flash: %v", size, got)
		}
	}
	if Of(nil) != nil || Of([]uint32{}) != nil {
		t.Error("Of no words is a flash")
	}
}

// P6.1 and R4: Of keeps nothing of its argument and changes nothing of it, nor of its spare capacity.
func TestOfIsItsOwn(t *testing.T) {
	whole := noise(3*256, 1)
	before := slices.Clone(whole)
	f := Of(whole[:256])
	f.Program(0, 0)
	f.Program(255, 0)
	f.Cut(1, 100)
	f.Erase(0)
	f.Erase(0)
	if !slices.Equal(whole, before) {
		t.Error("a flash changed the words that it was made of")
	}
	f, g := Of(whole[:512]), Of(whole[:512])
	spoil(whole)
	expect(t, "Of with words that were changed since", f, before[:512], true, 0)
	f.Program(1, 0)
	expect(t, "another flash of the same words", g, before[:512], true, 0)
}

// P6.2: Program clears the bits that are 0 in w, and no other bit of any word.
func TestProgram(t *testing.T) {
	for _, sectors := range []int{1, 2, 16} {
		want := noise(sectors*256, 2)
		f := Of(want)
		for i, at := range []int{0, 1, 2, 127, 255, len(want) - 256, len(want) - 2, len(want) - 1, 0} {
			w := noise(20, 3)[i]
			if e := f.Program(at, w); e != api.OK {
				t.Errorf("Program(%d, %#x) = %d", at, w, e)
			}
			want[at] &= w
			expect(t, fmt.Sprintf("Program(%d, %#x)", at, w), f, want, true, i+1)
		}
	}
}

// P6.2: every bit alone, of an erased word and of others; P6.5: none is ever set.
func TestProgramBits(t *testing.T) {
	for bit := range 32 {
		for _, old := range append(noise(8, 4), 0, 0xffffffff, 1<<bit, ^uint32(1<<bit)) {
			for _, w := range append(noise(8, 5), 0, 0xffffffff, 1<<bit, ^uint32(1<<bit)) {
				words := make([]uint32, 256)
				words[9] = old
				f := Of(words)
				if e := f.Program(9, w); e != api.OK {
					t.Errorf("Program(9, %#x) = %d", w, e)
				}
				if got, e := f.Read(9); got != old&w || got&^old != 0 || e != api.OK || f.Ops() != 1 {
					t.Errorf("Program(9, %#x) of %#x made %#x", w, old, got)
				}
			}
		}
	}
}

// P6.2: Erase erases all words of its sector, and no others.
func TestErase(t *testing.T) {
	for _, sectors := range []int{1, 2, 3, 16} {
		for _, content := range [][]uint32{noise(sectors*256, 6), make([]uint32, sectors*256)} {
			for sector := range sectors {
				want := slices.Clone(content)
				f := Of(want)
				copy(want[sector*256:], ones(256))
				for again := range 2 {
					if e := f.Erase(sector); e != api.OK {
						t.Errorf("Erase(%d) of %d = %d", sector, sectors, e)
					}
					expect(t, fmt.Sprintf("Erase(%d) of %d", sector, sectors), f, want, true, again+1)
				}
			}
		}
	}
}

// P6.2: no such sector and no such word: nothing is done, counted or read.
func TestRange(t *testing.T) {
	for _, sectors := range []int{1, 2, 16} {
		w := noise(sectors*256, 8)
		f := Of(w)
		for _, sector := range append(outside(), sectors, sectors+1, 16, 17, 256, sectors*256) {
			if e := f.Erase(sector); e != api.ErrRange {
				t.Errorf("Erase(%d) of %d = %d", sector, sectors, e)
			}
		}
		for _, at := range append(outside(), sectors*256, sectors*256+1, sectors*256+255) {
			if e := f.Program(at, 0); e != api.ErrRange {
				t.Errorf("Program(%d, 0) of %d = %d", at, sectors, e)
			}
			if n, e := f.Read(at); n != 0 || e != api.ErrRange {
				t.Errorf("Read(%d) of %d = %#x, %d", at, sectors, n, e)
			}
		}
		expect(t, "calls outside", f, w, true, 0)
	}
}

// P6.2: while the power is off, all three return ErrOff, also for what there is not, and do nothing.
func TestOff(t *testing.T) {
	w := noise(512, 9)
	f := off(t, w, 3)
	for _, number := range append(outside(), 0, 1, 2, 255, 256, 511, 512) {
		if e := f.Erase(number); e != api.ErrOff {
			t.Errorf("Erase(%d) = %d", number, e)
		}
		if e := f.Program(number, 0); e != api.ErrOff {
			t.Errorf("Program(%d, 0) = %d", number, e)
		}
		if n, e := f.Read(number); n != 0 || e != api.ErrOff {
			t.Errorf("Read(%d) = %#x, %d", number, n, e)
		}
	}
	expect(t, "calls while the power is off", f, w, false, 3)
	f.Start()
	expect(t, "after Start", f, w, true, 3)
	if e := f.Erase(2); e != api.ErrRange {
		t.Errorf("Erase(2) after Start = %d", e)
	}
}

// P6.3: n operations are complete, of either kind, and the next one is interrupted; then the failure is no longer planned.
func TestCutCounts(t *testing.T) {
	for n := range 12 {
		f := New(2)
		if e := f.Cut(n, 0); e != api.OK {
			t.Errorf("Cut(%d, 0) = %d", n, e)
		}
		want := ones(512)
		for i := range n {
			if i%3 == 2 {
				if e := f.Erase(0); e != api.OK {
					t.Errorf("Erase %d of %d = %d", i, n, e)
				}
				copy(want, ones(256))
				continue
			}
			if e := f.Program(i, 5); e != api.OK {
				t.Errorf("Program %d of %d = %d", i, n, e)
			}
			want[i] = 5
		}
		expect(t, fmt.Sprintf("before the failure after %d", n), f, want, true, n)
		if e := f.Program(300, 0); e != api.ErrOff {
			t.Errorf("the Program behind %d = %d", n, e)
		}
		expect(t, fmt.Sprintf("the failure after %d", n), f, want, false, n)
		f.Start()
		for i := range 20 {
			if e := f.Program(400, 0); e != api.OK {
				t.Errorf("Program %d after the failure = %d", i, e)
			}
		}
		want[400] = 0
		expect(t, fmt.Sprintf("long after the failure after %d", n), f, want, true, n+20)
	}
}

// P6.3: operations that change no word count; Read, the other methods, and calls that are refused do not.
func TestWhatCutCounts(t *testing.T) {
	f := New(1)
	f.Cut(2, 0xff)
	f.Program(0, 0xffffffff)
	for range 5 {
		f.Read(0)
		f.Read(-1)
		f.Erase(1)
		f.Erase(-1)
		f.Program(256, 0)
		f.Program(-1, 0)
		f.Len()
		f.Words()
		f.Ops()
		f.On()
		f.Copy()
		f.Start()
		f.Cut(-1, 0)
	}
	if e := f.Erase(0); e != api.OK || f.Ops() != 2 {
		t.Errorf("the second operation = %d, Ops %d", e, f.Ops())
	}
	if e := f.Program(256, 0); e != api.ErrRange || !f.On() {
		t.Errorf("a call that is refused where the power is to fail = %d", e)
	}
	if n, e := f.Read(0); n != 0xffffffff || e != api.OK || !f.On() {
		t.Errorf("a Read where the power is to fail = %#x, %d", n, e)
	}
	if e := f.Program(7, 0xffffffff); e != api.ErrOff || f.On() || f.Ops() != 2 {
		t.Errorf("the third operation = %d, Ops %d", e, f.Ops())
	}
}

// P6.3: Cut of a number below 0 is refused and changes no plan; also while the power is off.
func TestCutRefuses(t *testing.T) {
	for _, n := range []int{-1, -2, -1 << 31, -1 << 32, math.MinInt + 1, math.MinInt} {
		f := New(1)
		if e := f.Cut(n, 0xff); e != api.ErrArg {
			t.Errorf("Cut(%d) = %d", n, e)
		}
		for range 5 {
			if e := f.Program(0, 0); e != api.OK {
				t.Errorf("Program after Cut(%d) = %d", n, e)
			}
		}
		f.Cut(1, 0xff)
		f.Cut(n, 0)
		if f.Program(1, 0) != api.OK || f.Program(2, 0) != api.ErrOff || f.Words()[2] != 0xffffff00 {
			t.Errorf("Cut(%d) changed the failure that was planned", n)
		}
		if e := f.Cut(n, 0xff); e != api.ErrArg || f.On() {
			t.Errorf("Cut(%d) while the power is off = %d", n, e)
		}
		f.Start()
		if e := f.Program(3, 0); e != api.OK {
			t.Errorf("Program after Cut(%d) and Start = %d", n, e)
		}
	}
}

// P6.3: a planned failure takes the place of the one before, whichever is the nearer one, with its mask.
func TestCutAgain(t *testing.T) {
	for first := range 6 {
		for second := range 6 {
			for done := range first + 1 {
				f := New(1)
				f.Cut(first, 0xf0)
				for range done {
					f.Program(0, 0)
				}
				if e := f.Cut(second, 0x0f); e != api.OK {
					t.Errorf("the second Cut = %d", e)
				}
				for i := range second {
					if e := f.Program(0, 0); e != api.OK {
						t.Errorf("Cut(%d), %d operations, Cut(%d): operation %d = %d", first, done, second, i, e)
					}
				}
				if e := f.Program(1, 0); e != api.ErrOff || f.Words()[1] != 0xfffffff0 {
					t.Errorf("Cut(%d), %d operations, Cut(%d): the last operation = %d, %#x", first, done, second, e, f.Words()[1])
				}
				f.Start()
				for range 10 {
					if e := f.Program(2, 0); e != api.OK {
						t.Errorf("Cut(%d), %d operations, Cut(%d): the failure before is still planned", first, done, second)
					}
				}
			}
		}
	}
}

// P6.3: a failure that is planned while the power is off counts from the next Start on; the last one holds.
func TestCutWhileOff(t *testing.T) {
	for n := range 5 {
		f := off(t, ones(256), 2)
		if f.Cut(3, 0xff) != api.OK || f.Cut(n, 0xf) != api.OK || f.On() {
			t.Error("Cut while the power is off")
		}
		for range 10 {
			f.Program(0, 0)
			f.Erase(0)
		}
		expect(t, "Cut while the power is off", f, ones(256), false, 2)
		f.Start()
		want := ones(256)
		for i := range n {
			if e := f.Program(i, 0); e != api.OK {
				t.Errorf("operation %d after Cut(%d) and Start = %d", i, n, e)
			}
			want[i] = 0
		}
		expect(t, fmt.Sprintf("Cut(%d) while the power is off, then Start", n), f, want, true, 2+n)
		if e := f.Program(100, 0); e != api.ErrOff {
			t.Errorf("the operation behind %d = %d", n, e)
		}
		want[100] = 0xfffffff0
		expect(t, fmt.Sprintf("the failure after %d", n), f, want, false, 2+n)
	}
}

// P6.3: Start leaves a planned failure, the words and the count as they are, and is no harm while the power is on.
func TestStart(t *testing.T) {
	w := noise(256, 10)
	f := Of(w)
	f.Start()
	expect(t, "Start of a new flash", f, w, true, 0)
	f.Cut(1, 0)
	f.Start()
	if f.Program(0, 0xffffffff) != api.OK || f.Program(0, 0) != api.ErrOff {
		t.Error("Start took the planned failure back")
	}
	f.Start()
	f.Start()
	expect(t, "Start twice", f, w, true, 1)
	if e := f.Program(0, 0xffffffff); e != api.OK {
		t.Errorf("Program after Start twice = %d", e)
	}
}

// P6.3: a failure that is far off does not happen.
func TestCutFar(t *testing.T) {
	for _, n := range []int{1 << 31, 1 << 32, math.MaxInt - 1, math.MaxInt} {
		f := New(1)
		if e := f.Cut(n, 0xff); e != api.OK {
			t.Errorf("Cut(%d) = %d", n, e)
		}
		for range 1000 {
			if e := f.Program(0, 0); e != api.OK {
				t.Fatalf("Program after Cut(%d) = %d", n, e)
			}
		}
		if f.Ops() != 1000 || !f.On() {
			t.Errorf("Ops after Cut(%d) = %d", n, f.Ops())
		}
	}
}

// P6.3 and P6.5: an interrupted Erase erases the first words, mask modulo 257 of them; repeated, it is complete.
func TestInterruptedErase(t *testing.T) {
	type row struct {
		mask uint32
		k    int
	}
	rows := []row{{0, 0}, {1, 1}, {255, 255}, {256, 256}, {257, 0}, {258, 1}, {513, 256}, {514, 0}, {0x80000000, 129}, {0xfffffffe, 256}, {0xffffffff, 0}}
	for k := range 257 {
		rows = append(rows, row{uint32(k), k}, row{uint32(257*1000 + k), k})
	}
	for _, c := range rows {
		for _, sector := range []int{0, 1, 2} {
			want := make([]uint32, 3*256)
			f := Of(want)
			f.Cut(0, c.mask)
			if e := f.Erase(sector); e != api.ErrOff {
				t.Errorf("an interrupted Erase(%d) = %d", sector, e)
			}
			copy(want[sector*256:], ones(c.k))
			expect(t, fmt.Sprintf("Erase(%d) with the mask %d", sector, c.mask), f, want, false, 0)
			f.Start()
			if e := f.Erase(sector); e != api.OK {
				t.Errorf("the second Erase(%d) = %d", sector, e)
			}
			copy(want[sector*256:], ones(256))
			expect(t, "the second Erase", f, want, true, 1)
		}
	}
}

// P6.3 and P6.5: an interrupted Program clears those bits that are 1 in mask; repeated with the same word, it is complete.
func TestInterruptedProgram(t *testing.T) {
	for _, c := range []struct{ old, w, mask, want uint32 }{
		{0xffffffff, 0, 0xff, 0xffffff00},
		{0xffffffff, 0, 0, 0xffffffff},
		{0xffffffff, 0, 256, 0xfffffeff},
		{0xffffffff, 0, 257, 0xfffffefe},
		{0xffffffff, 0, 0xffffffff, 0},
		{0xffffffff, 0x0f, 0xff, 0xffffff0f},
		{0x0f, 0xf0, 0x33, 0x0c},
		{0x0f, 0xff, 0xff, 0x0f},
		{0, 0xff, 0xffffffff, 0},
		{0, 0, 0, 0},
		{0xffffffff, 0x7fffffff, 0x80000000, 0x7fffffff},
		{0xffffffff, 0x7fffffff, 0x7fffffff, 0xffffffff},
	} {
		for _, at := range []int{0, 5, 255, 256, 511} {
			words := noise(512, 11)
			words[at] = c.old
			f := Of(words)
			f.Cut(0, c.mask)
			if e := f.Program(at, c.w); e != api.ErrOff {
				t.Errorf("an interrupted Program = %d", e)
			}
			words[at] = c.want
			expect(t, fmt.Sprintf("Program(%d, %#x) of %#x with the mask %#x", at, c.w, c.old, c.mask), f, words, false, 0)
			f.Start()
			if e := f.Program(at, c.w); e != api.OK {
				t.Errorf("the second Program = %d", e)
			}
			words[at] = c.old & c.w
			expect(t, "the second Program", f, words, true, 1)
		}
	}
}

// P6.5: after an interrupted Program, each bit is as before or as it was to become, and none is set.
func TestInterruptedProgramBits(t *testing.T) {
	for _, old := range append(noise(10, 12), 0, 0xffffffff) {
		for _, w := range append(noise(10, 13), 0, 0xffffffff, old) {
			for _, mask := range masks() {
				words := ones(256)
				words[77] = old
				f := Of(words)
				f.Cut(0, mask)
				f.Program(77, w)
				got, whole := f.Words()[77], old&w
				for bit := range 32 {
					is, was, will, masked := got>>bit&1, old>>bit&1, whole>>bit&1, mask>>bit&1
					if masked == 1 && is != will || masked == 0 && is != was || is > was {
						t.Errorf("bit %d of %#x by Program of %#x with the mask %#x is %d", bit, old, w, mask, is)
					}
				}
			}
		}
	}
}

// P6.5: after an interrupted Erase, each word is as before or erased, the erased ones come first, and no other sector is changed.
func TestInterruptedEraseWords(t *testing.T) {
	for _, mask := range masks() {
		before := noise(3*256, 14)
		f := Of(before)
		f.Cut(0, mask)
		f.Erase(1)
		got := f.Words()
		k := 0
		for k < 256 && got[256+k] == 0xffffffff {
			k++
		}
		if k != int(uint64(mask)%257) || !slices.Equal(got[256+k:], before[256+k:]) || !slices.Equal(got[:256], before[:256]) {
			t.Errorf("the mask %#x: %d words are erased", mask, k)
		}
	}
}

// P6.5: a call that is interrupted again and again is complete as soon as the power holds.
func TestInterruptedAgain(t *testing.T) {
	words := noise(512, 15)
	f := Of(words)
	for i, mask := range masks() {
		f.Cut(0, mask)
		if e := f.Program(300, 0x12345678); e != api.ErrOff {
			t.Errorf("Program %d = %d", i, e)
		}
		f.Start()
		f.Cut(0, mask)
		if e := f.Erase(0); e != api.ErrOff {
			t.Errorf("Erase %d = %d", i, e)
		}
		f.Start()
	}
	if f.Ops() != 0 || f.Program(300, 0x12345678) != api.OK || f.Erase(0) != api.OK {
		t.Error("the calls without a failure")
	}
	copy(words, ones(256))
	words[300] &= 0x12345678
	expect(t, "interrupted again and again", f, words, true, 2)
}

// P6.4: Len, Words and Ops tell the same while the power is off; an interrupted operation is not counted.
func TestOpsAndLen(t *testing.T) {
	for _, sectors := range []int{1, 2, 16} {
		w := noise(sectors*256, 16)
		f := off(t, w, 5)
		if f.Len() != sectors*256 || f.Ops() != 5 || f.On() || !slices.Equal(f.Words(), w) {
			t.Errorf("%d sectors while the power is off: Len %d, Ops %d, On %v", sectors, f.Len(), f.Ops(), f.On())
		}
		f.Start()
		f.Erase(0)
		f.Program(0, 0)
		f.Program(-1, 0)
		f.Erase(sectors)
		f.Read(0)
		if f.Len() != sectors*256 || f.Ops() != 7 {
			t.Errorf("%d sectors: Len %d, Ops %d", sectors, f.Len(), f.Ops())
		}
	}
}

// P6.4 and R4: what Words returns is memory of its own: the flash does not change it, nor does it change the flash.
func TestWordsAreTheirOwn(t *testing.T) {
	w := noise(512, 17)
	for _, f := range []*Flash{Of(w), off(t, w, 0)} {
		first, second := f.Words(), f.Words()
		spoil(first)
		if !slices.Equal(second, w) || !slices.Equal(f.Words(), w) {
			t.Error("Words hands out what it keeps")
		}
		f.Start()
		f.Program(3, 0)
		f.Erase(1)
		if !slices.Equal(second, w) {
			t.Error("what Words returned was changed later")
		}
	}
}

// P6.4: a Copy tells the same as its original, on and off, and neither changes the other.
func TestCopy(t *testing.T) {
	w := noise(512, 18)
	on := Of(w)
	on.Program(0, 0xffffffff)
	for _, c := range []struct {
		name string
		f    *Flash
		on   bool
		ops  int
	}{{"on", on, true, 1}, {"off", off(t, w, 4), false, 4}} {
		g := c.f.Copy()
		expect(t, "a copy, "+c.name, g, w, c.on, c.ops)
		g.Start()
		g.Program(1, 0)
		g.Erase(1)
		g.Cut(0, 0)
		g.Program(0, 0)
		expect(t, "the original, "+c.name, c.f, w, c.on, c.ops)
		h := c.f.Copy()
		c.f.Start()
		if c.f.Erase(0) != api.OK || c.f.Program(511, 0) != api.OK {
			t.Error("the failure of the copy is planned in the original")
		}
		expect(t, "the second copy, "+c.name, h, w, c.on, c.ops)
		if g.On() || g.Ops() != c.ops+2 {
			t.Errorf("the first copy, %s: On %v, Ops %d", c.name, g.On(), g.Ops())
		}
	}
}

// P6.4: a planned failure is copied, with what is left of it and its mask, and then each flash has one of its own.
func TestCopyOfAPlan(t *testing.T) {
	fails := func(name string, f *Flash, after int, want uint32) {
		t.Helper()
		for i := range after {
			if e := f.Program(i, 0); e != api.OK {
				t.Errorf("%s: operation %d = %d", name, i, e)
			}
		}
		if e := f.Program(99, 0); e != api.ErrOff || f.On() || f.Words()[99] != want {
			t.Errorf("%s: the last operation = %d, %#x", name, e, f.Words()[99])
		}
	}
	f := New(1)
	f.Cut(5, 0xff)
	f.Program(200, 0)
	f.Program(201, 0)
	g, h := f.Copy(), f.Copy()
	h.Cut(1, 0xf)
	fails("the copy", g, 3, 0xffffff00)
	fails("the copy with another plan", h, 1, 0xfffffff0)
	fails("the original", f, 3, 0xffffff00)
	f.Cut(2, 0x1)
	g = f.Copy()
	if g.On() {
		t.Error("the copy of a flash that is off is on")
	}
	g.Start()
	f.Start()
	f.Cut(0, 0x10)
	g.Erase(0)
	f.Erase(0)
	fails("the copy of a plan while the power is off", g, 1, 0xfffffffe)
	g = f.Copy()
	f.Start()
	g.Start()
	if f.Erase(0) != api.OK || g.Erase(0) != api.OK {
		t.Error("a failure that happened is copied")
	}
}

// A nil *Flash, and one that the package did not return (R1), answer with ErrNil or zero values, whatever the arguments are, and stay as they are.
func TestNone(t *testing.T) {
	for _, f := range []*Flash{nil, {}, new(Flash)} {
		for range 2 {
			for _, n := range []int{0, 1, -1, 255, 256, math.MinInt, math.MaxInt} {
				if e := f.Erase(n); e != api.ErrNil {
					t.Errorf("Erase(%d) = %d", n, e)
				}
				if e := f.Program(n, 0); e != api.ErrNil {
					t.Errorf("Program(%d) = %d", n, e)
				}
				if w, e := f.Read(n); w != 0 || e != api.ErrNil {
					t.Errorf("Read(%d) = %#x, %d", n, w, e)
				}
				if e := f.Cut(n, 1); e != api.ErrNil {
					t.Errorf("Cut(%d) = %d", n, e)
				}
			}
			if f.Len() != 0 || len(f.Words()) != 0 || f.On() || f.Ops() != 0 || f.Copy() != nil {
				t.Error("a flash that is none tells something")
			}
			f.Start()
		}
	}
}

// The example of the chapter.
func TestExample(t *testing.T) {
	f := New(1)
	if e := f.Program(3, 0x0f); e != api.OK || f.Words()[3] != 0x0f {
		t.Errorf("the first Program = %d, %#x", e, f.Words()[3])
	}
	if e := f.Program(3, 0xf0); e != api.OK || f.Words()[3] != 0 {
		t.Errorf("the second Program = %d, %#x", e, f.Words()[3])
	}
	f.Cut(0, 0xff)
	if e := f.Program(4, 0); e != api.ErrOff || f.Words()[4] != 0xffffff00 {
		t.Errorf("the third Program = %d, %#x", e, f.Words()[4])
	}
	if n, e := f.Read(4); n != 0 || e != api.ErrOff {
		t.Errorf("Read(4) = %#x, %d", n, e)
	}
	f.Start()
	if n, e := f.Read(4); n != 0xffffff00 || e != api.OK {
		t.Errorf("Read(4) after Start = %#x, %d", n, e)
	}
	if New(0) != nil || f.Program(256, 0) != api.ErrRange {
		t.Error("New(0) or Program(256, 0)")
	}
}

// model is a flash told bit by bit: when is the number of the operation, counted from 1 on over all, that is interrupted (0: none).
type model struct {
	words     []uint32
	on        bool
	ops       int
	when, run int
	mask      uint32
}

// fails counts an operation of the model, and says whether it is interrupted.
func (m *model) fails() bool {
	m.run++
	if m.run == m.when {
		m.on, m.when = false, 0
		return true
	}
	m.ops++
	return false
}

func (m *model) erase(sector int) api.Errno {
	if !m.on {
		return api.ErrOff
	}
	if sector < 0 || sector*256 >= len(m.words) {
		return api.ErrRange
	}
	k, e := 256, api.OK
	if m.fails() {
		k, e = int(m.mask%257), api.ErrOff
	}
	copy(m.words[sector*256:], ones(k))
	return e
}

func (m *model) program(at int, w uint32) api.Errno {
	if !m.on {
		return api.ErrOff
	}
	if at < 0 || at >= len(m.words) {
		return api.ErrRange
	}
	mask, e := uint32(0xffffffff), api.OK
	if m.fails() {
		mask, e = m.mask, api.ErrOff
	}
	for bit := range 32 {
		if w>>bit&1 == 0 && mask>>bit&1 == 1 && m.words[at]>>bit&1 == 1 {
			m.words[at] -= 1 << bit
		}
	}
	return e
}

func (m *model) cut(n int, mask uint32) api.Errno {
	if n < 0 {
		return api.ErrArg
	}
	m.when, m.mask = m.run+n+1, mask
	return api.OK
}

// P6.2 to P6.5: long mixed sequences of calls, against the model; the copy of a flash goes on in its place now and then.
func TestAgainstTheModel(t *testing.T) {
	for seed := range uint32(30) {
		sectors := 1 + int(seed%3)
		start := noise(sectors*256, seed)
		f, m := Of(start), &model{words: slices.Clone(start), on: true}
		for step, r := range noise(1500, 100+seed) {
			kind, a, b := r%16, int(r>>4%1024)-100, r*2654435761
			got, want := api.OK, api.OK
			switch {
			case kind < 7:
				got, want = f.Program(a, b), m.program(a, b)
			case kind < 10:
				got, want = f.Erase(a/256), m.erase(a/256)
			case kind < 12:
				got, want = f.Cut(a%8, b), m.cut(a%8, b)
			case kind < 14:
				f.Start()
				m.on = true
			case kind == 14:
				old := f
				f = f.Copy()
				old.Start()
				old.Cut(0, b)
				old.Erase(0)
			}
			if got != want {
				t.Fatalf("seed %d, step %d, kind %d, %d, %#x: %d, want %d", seed, step, kind, a, b, got, want)
			}
			if f.On() != m.on || f.Ops() != m.ops || !slices.Equal(f.Words(), m.words) {
				t.Fatalf("seed %d, step %d, kind %d, %d, %#x: the flash and the model differ", seed, step, kind, a, b)
			}
		}
		expect(t, fmt.Sprintf("seed %d", seed), f, m.words, m.on, m.ops)
	}
}

// R5: the same calls on two flashes give the same results.
func TestTwoAlike(t *testing.T) {
	f, g := New(2), New(2)
	for _, r := range noise(500, 19) {
		a, b := int(r%600)-20, r*2654435761
		if f.Cut(a%5, b) != g.Cut(a%5, b) || f.Program(a, b) != g.Program(a, b) || f.Erase(a/256) != g.Erase(a/256) {
			t.Fatal("two flashes answer differently")
		}
		if r%3 == 0 {
			f.Start()
			g.Start()
		}
	}
	if !slices.Equal(f.Words(), g.Words()) || f.Ops() != g.Ops() || f.On() != g.On() {
		t.Error("two flashes differ")
	}
}
